"""What the tests share: wrong values, and plain ways to tell what the document says."""

import copy
import inspect
import itertools
import random
import unittest

from likestreets.errors import TooMany
from likestreets.tables import Table

GREAT = 10 ** 30 - 1
SHELF = Table((1, 1, 1), (0, 1, 2))
TWO_WAYS = Table((1, 2, 3), (0, 0, 1))
NO_OWN = Table((0, 0, 0), (1, -2, 0))
RANK_0 = Table((3,), (1,))
ONE_FREE = Table((0,), (2,))
TABLE_196 = Table((1, 3, 3, 4, 4, 4), (0, 0, 0, 0, 0, 0))
TABLE_204 = Table((2, 3, 3, 3, 4, 4), (0, 0, 0, 0, 0, 1))
LOTS_300 = Table((1, 0, 4, 0, 4, 0), (3, -3, 1, 1, -3, 0))
LOTS_301 = Table((1, 4, 0, 2), (4, 3, -4, 3))


class Thing:
    """A value of a kind that no text speaks of."""


NO_LISTS = [
    None, True, False, 0, 1, -1, 7, "", "1", "1 2", b"", b"12", {}, {0: 1, 1: 2}, {0, 1}, set(),
    frozenset(), Thing(), Thing, len, range(3), SHELF,
]
NO_INTEGERS = [value for value in NO_LISTS if not isinstance(value, int) or isinstance(value, bool)] + [
    [], (), [1], (1,), [[]],
]
NO_TABLES = [value for value in NO_LISTS if value is not SHELF] + [((1, 1), (0, 1)), [[1], [1]], Table]
NO_ROWS = NO_LISTS + [
    [], (), [True], [False], [1, True, 0], (0, False, 0), [None], ["1", 1, 1], [1, b"1", 1], [[1, 1, 1]],
    [1, [1], 1], (1, (0,), -1), [0] * 7, (0,) * 7, [1, {}, 2], [Thing(), 1, 2],
]
NO_CHANGES = NO_ROWS + [[1, 0, 0], [1, -1], (1, -1, 0, 0), [GREAT, -GREAT, 1]]
UNITS = [(-1, 0, 0), (0, -1, 0), (0, 0, -1), (0, 0, 1), (0, 1, 0), (1, 0, 0)]


def some_owns(seed, columns, many):
    """Own rows of so many columns, always the same ones."""
    source = random.Random(seed)
    return [tuple([source.randint(-4, 4) for _ in range(columns)]) for _ in range(many)]


class Case(unittest.TestCase):
    """Checks for errors, their attributes, and what a call must leave alone."""

    def assertFails(self, error, told, function, *arguments):
        """The call raises just this error, with these attributes, and changes nothing."""
        before = snapshot(arguments)
        with self.assertRaises(error) as caught:
            function(*arguments)
        self.assertIs(type(caught.exception), error)
        self.assertEqual(snapshot(arguments), before)
        for name, value in told.items():
            self.assertTrue(hasattr(caught.exception, name), name)
            found = getattr(caught.exception, name)
            self.assertIs(type(found), type(value))
            self.assertEqual(found, value)

    def assertInvalid(self, error, value, function, *arguments):
        self.assertFails(error, {"value": value}, function, *arguments)

    def assertTooMany(self, what, limit, function, *arguments):
        self.assertFails(TooMany, {"what": what, "limit": limit}, function, *arguments)

    def assertYes(self, function, *arguments):
        before = snapshot(arguments)
        self.assertIs(function(*arguments), True, arguments)
        self.assertEqual(snapshot(arguments), before)

    def assertNo(self, function, *arguments):
        before = snapshot(arguments)
        self.assertIs(function(*arguments), False, arguments)
        self.assertEqual(snapshot(arguments), before)

    def assertGives(self, wanted, function, *arguments):
        """The call returns just this, of just these kinds, twice, and leaves its arguments alone."""
        before = snapshot(arguments)
        first = function(*arguments)
        self.assertSame(first, wanted)
        spoil(first)
        self.assertEqual(snapshot(arguments), before)
        self.assertSame(function(*arguments), wanted)

    def assertSame(self, found, wanted):
        self.assertEqual(kinds(found), kinds(wanted))
        self.assertEqual(found, wanted)

    def assertRows(self, value):
        """The value is a list of rows as they are told: as tuples of INTEGERS."""
        self.assertIs(type(value), list)
        for row in value:
            self.assertTupleOfIntegers(row)

    def assertTupleOfIntegers(self, row):
        self.assertIs(type(row), tuple)
        self.assertTrue(all([type(number) is int for number in row]), row)

    def assertParameters(self, function, *names):
        self.assertEqual(list(inspect.signature(function).parameters), list(names))

    def assertDefinedIn(self, module, *names):
        for name in names:
            self.assertEqual(getattr(module, name).__module__, module.__name__)


def snapshot(arguments):
    """A copy of the lists and tuples among the arguments, whatever stands in them."""
    if isinstance(arguments, (list, tuple)):
        return (type(arguments), [snapshot(value) for value in arguments])
    if isinstance(arguments, dict):
        return (dict, [(key, snapshot(arguments[key])) for key in arguments])
    if isinstance(arguments, (set, frozenset)):
        return copy.copy(arguments)
    return arguments


def kinds(value):
    if isinstance(value, (list, tuple)):
        return (type(value), [kinds(inside) for inside in value])
    return type(value)


def spoil(value):
    """Change a returned list, and those inside it, as whoever got them may."""
    if isinstance(value, (list, tuple)):
        for inside in value:
            spoil(inside)
    if isinstance(value, list):
        value.append("spoiled")


def plain_worth(row, other):
    return sum([a * b for a, b in zip(row, other)])


def plain_fits(row, other):
    return all([a == 0 or (a * b > 0 and abs(a) <= abs(b)) for a, b in zip(row, other)])


def plain_within(own, row):
    """All changes that fit into the row, sorted."""
    ranges = [range(min(0, number), max(0, number) + 1) for number in row]
    return sorted([inside for inside in itertools.product(*ranges) if plain_worth(inside, own) == 0])


def rows_up_to(columns, length):
    if columns == 0:
        return [()]
    found = []
    for number in range(-length, length + 1):
        found += [(number,) + rest for rest in rows_up_to(columns - 1, length - abs(number))]
    return found


def plain_least(own):
    """All least changes, by their definition among all rows that are short enough."""
    greatest = max([abs(entry) for entry in own])
    bound = {0: 1, 1: 2}.get(greatest, 2 * greatest - 1)
    rows = [row for row in rows_up_to(len(own), bound) if any(row) and plain_worth(row, own) == 0]
    found = []
    for row in sorted(rows, key=lambda row: sum([abs(number) for number in row])):
        if not any([plain_fits(least, row) for least in found]):
            found.append(row)
    return sorted(found)


def plain_few(own, change):
    """The least number of least changes that add up to the change, each fitting into it."""
    least = [row for row in plain_least(own) if plain_fits(row, change)]
    level, many = {tuple(change)}, 0
    while (0,) * len(own) not in level:
        many += 1
        level = {
            tuple([a - b for a, b in zip(left, row)]) for left in level for row in least if plain_fits(row, left)
        }
    return many


def plain_pulls(table):
    return sorted({plain_worth(row, table.common) for row in plain_least(table.own)})


def plain_lots(numbers):
    """The sorted least lots of these pulls, by their definition; the greatest pull is small."""
    found = []
    if not numbers:
        return found
    for many in range(1, max(1, 2 * max(numbers)) + 1):
        for things in itertools.combinations_with_replacement(numbers, many):
            lot = {number: things.count(number) for number in things}
            if sum(things) == 0 and not any([lot_in(least, lot) for least in found]):
                found.append(lot)
    return sorted([sorted(lot.items()) for lot in found])


def lot_in(lot, other):
    return all([other.get(number, 0) >= lot[number] for number in lot])


def plain_swaps_within(table, swap):
    """All lists of rows within the swap."""
    found = []
    for rows in itertools.product(*[plain_within(table.own, change) for change in swap]):
        inside = sum([plain_worth(row, table.common) for row in rows]) == 0
        if inside and any([any(row) for row in rows]) and list(rows) != [tuple(change) for change in swap]:
            found.append(list(rows))
    return found
