"""What the tests share: wrong values, and plain ways to tell what the document says."""

import copy
import inspect
import itertools
import random
import unittest

from likestreets.errors import TooMany
from likestreets.kinds import Kind
from likestreets.streets import Street
from likestreets.tables import Table

GREAT = 10 ** 30 - 1
SHELF = Table((1, 1, 1), (0, 1, 2))
TWO_WAYS = Table((1, 2, 3), (0, 0, 1))
NO_OWN = Table((0, 0, 0), (1, -2, 0))
RANK_0 = Table((3,), (1,))
ONE_FREE = Table((0,), (2,))
TABLE_196 = Table((1, 3, 3, 4, 4, 4), (0, 0, 0, 0, 0, 0))
TABLE_204 = Table((2, 3, 3, 3, 4, 4), (0, 0, 0, 0, 0, 1))
LOTS_300 = Table((1, 0, 4, 0, 4, 0), (3, -3, 1, 1, -3, 0))
LOTS_301 = Table((1, 4, 0, 2), (4, 3, -4, 3))


class Thing:
    """A value of a kind that no text speaks of."""


NO_LISTS = [
    None, True, False, 0, 1, -1, 7, "", "1", "1 2", b"", b"12", {}, {0: 1, 1: 2}, {0, 1}, set(),
    frozenset(), Thing(), Thing, len, range(3), SHELF,
]
NO_INTEGERS = [value for value in NO_LISTS if not isinstance(value, int) or isinstance(value, bool)] + [
    [], (), [1], (1,), [[]],
]
NO_TABLES = [value for value in NO_LISTS if value is not SHELF] + [((1, 1), (0, 1)), [[1], [1]], Table]
NO_ROWS = NO_LISTS + [
    [], (), [True], [False], [1, True, 0], (0, False, 0), [None], ["1", 1, 1], [1, b"1", 1], [[1, 1, 1]],
    [1, [1], 1], (1, (0,), -1), [0] * 7, (0,) * 7, [1, {}, 2], [Thing(), 1, 2],
]
NO_CHANGES = NO_ROWS + [[1, 0, 0], [1, -1], (1, -1, 0, 0), [GREAT, -GREAT, 1]]
UNITS = [(-1, 0, 0), (0, -1, 0), (0, 0, -1), (0, 0, 1), (0, 1, 0), (1, 0, 0)]


def some_owns(seed, columns, many):
    """Own rows of so many columns, always the same ones."""
    source = random.Random(seed)
    return [tuple([source.randint(-4, 4) for _ in range(columns)]) for _ in range(many)]


class Case(unittest.TestCase):
    """Checks for errors, their attributes, and what a call must leave alone."""

    def assertFails(self, error, told, function, *arguments):
        """The call raises just this error, with these attributes, and changes nothing."""
        before = snapshot(arguments)
        with self.assertRaises(error) as caught:
            function(*arguments)
        self.assertIs(type(caught.exception), error)
        self.assertEqual(snapshot(arguments), before)
        for name, value in told.items():
            self.assertTrue(hasattr(caught.exception, name), name)
            found = getattr(caught.exception, name)
            self.assertIs(type(found), type(value))
            self.assertEqual(found, value)

    def assertInvalid(self, error, value, function, *arguments):
        self.assertFails(error, {"value": value}, function, *arguments)

    def assertTooMany(self, what, limit, function, *arguments):
        self.assertFails(TooMany, {"what": what, "limit": limit}, function, *arguments)

    def assertYes(self, function, *arguments):
        before = snapshot(arguments)
        self.assertIs(function(*arguments), True, arguments)
        self.assertEqual(snapshot(arguments), before)

    def assertNo(self, function, *arguments):
        before = snapshot(arguments)
        self.assertIs(function(*arguments), False, arguments)
        self.assertEqual(snapshot(arguments), before)

    def assertGives(self, wanted, function, *arguments):
        """The call returns just this, of just these kinds, twice, and leaves its arguments alone."""
        before = snapshot(arguments)
        first = function(*arguments)
        self.assertSame(first, wanted)
        spoil(first)
        self.assertEqual(snapshot(arguments), before)
        self.assertSame(function(*arguments), wanted)

    def assertSame(self, found, wanted):
        self.assertEqual(kinds(found), kinds(wanted))
        self.assertEqual(found, wanted)

    def assertRows(self, value):
        """The value is a list of rows as they are told: as tuples of INTEGERS."""
        self.assertIs(type(value), list)
        for row in value:
            self.assertTupleOfIntegers(row)

    def assertTupleOfIntegers(self, row):
        self.assertIs(type(row), tuple)
        self.assertTrue(all([type(number) is int for number in row]), row)

    def assertParameters(self, function, *names):
        self.assertEqual(list(inspect.signature(function).parameters), list(names))

    def assertDefinedIn(self, module, *names):
        for name in names:
            self.assertEqual(getattr(module, name).__module__, module.__name__)


def snapshot(arguments):
    """A copy of the lists and tuples among the arguments, whatever stands in them."""
    if isinstance(arguments, (list, tuple)):
        return (type(arguments), [snapshot(value) for value in arguments])
    if isinstance(arguments, dict):
        return (dict, [(key, snapshot(arguments[key])) for key in arguments])
    if isinstance(arguments, (set, frozenset)):
        return copy.copy(arguments)
    return arguments


def kinds(value):
    if isinstance(value, (list, tuple)):
        return (type(value), [kinds(inside) for inside in value])
    return type(value)


def spoil(value):
    """Change a returned list, and those inside it, as whoever got them may."""
    if isinstance(value, (list, tuple)):
        for inside in value:
            spoil(inside)
    if isinstance(value, list):
        value.append("spoiled")


def plain_worth(row, other):
    return sum([a * b for a, b in zip(row, other)])


def plain_fits(row, other):
    return all([a == 0 or (a * b > 0 and abs(a) <= abs(b)) for a, b in zip(row, other)])


def plain_within(own, row):
    """All changes that fit into the row, sorted."""
    ranges = [range(min(0, number), max(0, number) + 1) for number in row]
    return sorted([inside for inside in itertools.product(*ranges) if plain_worth(inside, own) == 0])


def rows_up_to(columns, length):
    if columns == 0:
        return [()]
    found = []
    for number in range(-length, length + 1):
        found += [(number,) + rest for rest in rows_up_to(columns - 1, length - abs(number))]
    return found


def plain_least(own):
    """All least changes, by their definition among all rows that are short enough."""
    greatest = max([abs(entry) for entry in own])
    bound = {0: 1, 1: 2}.get(greatest, 2 * greatest - 1)
    rows = [row for row in rows_up_to(len(own), bound) if any(row) and plain_worth(row, own) == 0]
    found = []
    for row in sorted(rows, key=lambda row: sum([abs(number) for number in row])):
        if not any([plain_fits(least, row) for least in found]):
            found.append(row)
    return sorted(found)


def plain_few(own, change):
    """The least number of least changes that add up to the change, each fitting into it."""
    least = [row for row in plain_least(own) if plain_fits(row, change)]
    level, many = {tuple(change)}, 0
    while (0,) * len(own) not in level:
        many += 1
        level = {
            tuple([a - b for a, b in zip(left, row)]) for left in level for row in least if plain_fits(row, left)
        }
    return many


def plain_pulls(table):
    return sorted({plain_worth(row, table.common) for row in plain_least(table.own)})


def plain_lots(numbers):
    """The sorted least lots of these pulls, by their definition; the greatest pull is small."""
    found = []
    if not numbers:
        return found
    for many in range(1, max(1, 2 * max(numbers)) + 1):
        for things in itertools.combinations_with_replacement(numbers, many):
            lot = {number: things.count(number) for number in things}
            if sum(things) == 0 and not any([lot_in(least, lot) for least in found]):
                found.append(lot)
    return sorted([sorted(lot.items()) for lot in found])


def lot_in(lot, other):
    return all([other.get(number, 0) >= lot[number] for number in lot])


def plain_swaps_within(table, swap):
    """All lists of rows within the swap."""
    found = []
    for rows in itertools.product(*[plain_within(table.own, change) for change in swap]):
        inside = sum([plain_worth(row, table.common) for row in rows]) == 0
        if inside and any([any(row) for row in rows]) and list(rows) != [tuple(change) for change in swap]:
            found.append(list(rows))
    return found


NO_PRICES = NO_LISTS + [
    [], (), (0,), (0, [], []), [0, []], [], (0, None), (None, []), (True, []), (False, []), ("0", []), ([], 0), (0, 0),
    (0, {}), (0, "ab"), (0, [1]), (0, [(1,)]), (0, [(1, 1, 1)]), (0, [[1, 1]]), (0, [(1, 1), [2, 1]]), (0, [(1, 0)]),
    (0, [(1, -1)]), (0, [(True, 1)]), (0, [(1, True)]), (0, [(None, 1)]), (0, [(1, "1")]), (0, [(2, 1), (2, 1)]),
    (0, [(2, 1), (1, 1)]), (0, ((1, 1), (3, 1), (2, 1))), (0, [(1, 1), (2, 1), (3, 1), (4, 1), (5, 1)]), ((0, []),),
    (0, (1, 1)), (0, [()]), (0, [None]), ((0,), []), (0, [((1,), 1)]),
]


def plain_price(price, number):
    """What a price costs, by the words of the document."""
    slope, bends = price
    return slope * number + sum([more * (number - place) for place, more in bends if place < number])


def plain_box(bounds):
    return list(itertools.product(*[range(low, high + 1) for low, high in bounds]))


def plain_houses(table, kind):
    """All house plans of a Kind, sorted."""
    return [row for row in plain_box(kind.bounds()) if plain_worth(row, table.own) == kind.rest]


def plain_house_price(kind, house):
    return sum([plain_price(price, number) for price, number in zip(kind.prices(), house)])


def plain_cost(street, layout):
    return sum([
        many * plain_house_price(kind, house) for kind, share in zip(street.kinds(), layout) for house, many in share
    ])


def plain_draw(street, layout):
    return sum([many * plain_worth(house, street.table.common) for share in layout for house, many in share])


def plain_layouts(street):
    """All layouts of a small street, told."""
    choices = []
    for kind in street.kinds():
        groups = itertools.combinations_with_replacement(plain_houses(street.table, kind), kind.many)
        choices.append([sorted([(house, group.count(house)) for house in set(group)]) for group in groups])
    return [list(layout) for layout in itertools.product(*choices)]


def plain_plans(street):
    return [layout for layout in plain_layouts(street) if plain_draw(street, layout) == street.stock]


def houses_told(share):
    """The house plans of a list of a layout, each as often as it is there."""
    return [house for house, many in share for _ in range(many)]


def some_price(source, low, high, size):
    places = sorted(source.sample(range(low - 1, high + 1), min(source.randint(0, 4), high - low + 1)))
    return (source.randint(-size, size), [(place, source.randint(1, size)) for place in places])


def some_street(source, table, houses, width, size=9):
    """A street of the table with as many kinds as numbers of houses are told, and a plan of it."""
    kinds, layout = [], []
    for many in houses:
        bounds = []
        for _ in range(table.columns):
            low = source.randint(-width, width)
            bounds.append((low, source.randint(low, width)))
        rest = plain_worth([source.randint(low, high) for low, high in bounds], table.own)
        prices = [some_price(source, low, high, size) for low, high in bounds]
        kinds.append(Kind(many, rest, bounds, prices))
        chosen = [source.choice(plain_houses(table, kinds[-1])) for _ in range(many)]
        layout.append(sorted([(house, chosen.count(house)) for house in set(chosen)]))
    street = Street(table, kinds, 0)
    return street.with_stock(plain_draw(street, layout)), layout
