"""What the tests share: wrong values, and plain ways to tell what the document says."""

import copy
import inspect
import itertools
import random
import unittest

from likestreets.better import better, is_best
from likestreets.errors import TooMany
from likestreets.exchanges import is_exchange, touched
from likestreets.kinds import Kind
from likestreets.saved import is_bettering
from likestreets.streets import Street
from likestreets.tables import Table

GREAT = 10 ** 30 - 1
SHELF = Table((1, 1, 1), (0, 1, 2))
TWO_WAYS = Table((1, 2, 3), (0, 0, 1))
NO_OWN = Table((0, 0, 0), (1, -2, 0))
RANK_0 = Table((3,), (1,))
ONE_FREE = Table((0,), (2,))
TABLE_196 = Table((1, 3, 3, 4, 4, 4), (0, 0, 0, 0, 0, 0))
TABLE_204 = Table((2, 3, 3, 3, 4, 4), (0, 0, 0, 0, 0, 1))
LOTS_300 = Table((1, 0, 4, 0, 4, 0), (3, -3, 1, 1, -3, 0))
LOTS_301 = Table((1, 4, 0, 2), (4, 3, -4, 3))


class Thing:
    """A value of a kind that no text speaks of."""


NO_LISTS = [
    None, True, False, 0, 1, -1, 7, "", "1", "1 2", b"", b"12", {}, {0: 1, 1: 2}, {0, 1}, set(),
    frozenset(), Thing(), Thing, len, range(3), SHELF,
]
NO_INTEGERS = [value for value in NO_LISTS if not isinstance(value, int) or isinstance(value, bool)] + [
    [], (), [1], (1,), [[]],
]
NO_TABLES = [value for value in NO_LISTS if value is not SHELF] + [((1, 1), (0, 1)), [[1], [1]], Table]
NO_ROWS = NO_LISTS + [
    [], (), [True], [False], [1, True, 0], (0, False, 0), [None], ["1", 1, 1], [1, b"1", 1], [[1, 1, 1]],
    [1, [1], 1], (1, (0,), -1), [0] * 7, (0,) * 7, [1, {}, 2], [Thing(), 1, 2],
]
NO_CHANGES = NO_ROWS + [[1, 0, 0], [1, -1], (1, -1, 0, 0), [GREAT, -GREAT, 1]]
UNITS = [(-1, 0, 0), (0, -1, 0), (0, 0, -1), (0, 0, 1), (0, 1, 0), (1, 0, 0)]


def some_owns(seed, columns, many):
    """Own rows of so many columns, always the same ones."""
    source = random.Random(seed)
    return [tuple([source.randint(-4, 4) for _ in range(columns)]) for _ in range(many)]


class Case(unittest.TestCase):
    """Checks for errors, their attributes, and what a call must leave alone."""

    def assertFails(self, error, told, function, *arguments):
        """The call raises just this error, with these attributes, and changes nothing."""
        before = snapshot(arguments)
        with self.assertRaises(error) as caught:
            function(*arguments)
        self.assertIs(type(caught.exception), error)
        self.assertEqual(snapshot(arguments), before)
        for name, value in told.items():
            self.assertTrue(hasattr(caught.exception, name), name)
            found = getattr(caught.exception, name)
            self.assertIs(type(found), type(value))
            self.assertEqual(found, value)

    def assertInvalid(self, error, value, function, *arguments):
        self.assertFails(error, {"value": value}, function, *arguments)

    def assertTooMany(self, what, limit, function, *arguments):
        self.assertFails(TooMany, {"what": what, "limit": limit}, function, *arguments)

    def assertYes(self, function, *arguments):
        before = snapshot(arguments)
        self.assertIs(function(*arguments), True, arguments)
        self.assertEqual(snapshot(arguments), before)

    def assertNo(self, function, *arguments):
        before = snapshot(arguments)
        self.assertIs(function(*arguments), False, arguments)
        self.assertEqual(snapshot(arguments), before)

    def assertGives(self, wanted, function, *arguments):
        """The call returns just this, of just these kinds, twice, and leaves its arguments alone."""
        before = snapshot(arguments)
        first = function(*arguments)
        self.assertSame(first, wanted)
        spoil(first)
        self.assertEqual(snapshot(arguments), before)
        self.assertSame(function(*arguments), wanted)

    def assertSame(self, found, wanted):
        self.assertEqual(kinds(found), kinds(wanted))
        self.assertEqual(found, wanted)

    def assertRows(self, value):
        """The value is a list of rows as they are told: as tuples of INTEGERS."""
        self.assertIs(type(value), list)
        for row in value:
            self.assertTupleOfIntegers(row)

    def assertTupleOfIntegers(self, row):
        self.assertIs(type(row), tuple)
        self.assertTrue(all([type(number) is int for number in row]), row)

    def assertParameters(self, function, *names):
        self.assertEqual(list(inspect.signature(function).parameters), list(names))

    def assertDefinedIn(self, module, *names):
        for name in names:
            self.assertEqual(getattr(module, name).__module__, module.__name__)

    def assertExchange(self, value):
        """The value is a list of tuples as exchanges are told, rows as tuples."""
        self.assertIs(type(value), list)
        for entry in value:
            self.assertIs(type(entry), tuple)
            kind, house, change, many = entry
            self.assertTupleOfIntegers((kind, many))
            self.assertTupleOfIntegers(house)
            self.assertTupleOfIntegers(change)

    def assertBetters(self, street, plan):
        """The plan is not best, and few houses are told by which it is bettered; returns their exchange."""
        found = better(street, plan)
        self.assertExchange(found)
        self.assertYes(is_exchange, street, plan, found)
        self.assertYes(is_bettering, street, plan, found)
        self.assertLessEqual(touched(street, plan, found), street.reach)
        self.assertGives(found[:], better, street, plan)
        self.assertNo(is_best, street, plan)
        return found

    def assertBest(self, street, plan):
        self.assertYes(is_best, street, plan)
        self.assertGives(None, better, street, plan)


def snapshot(arguments):
    """A copy of the lists and tuples among the arguments, whatever stands in them."""
    if isinstance(arguments, (list, tuple)):
        return (type(arguments), [snapshot(value) for value in arguments])
    if isinstance(arguments, dict):
        return (dict, [(key, snapshot(arguments[key])) for key in arguments])
    if isinstance(arguments, (set, frozenset)):
        return copy.copy(arguments)
    return arguments


def kinds(value):
    if isinstance(value, (list, tuple)):
        return (type(value), [kinds(inside) for inside in value])
    return type(value)


def spoil(value):
    """Change a returned list, and those inside it, as whoever got them may."""
    if isinstance(value, (list, tuple)):
        for inside in value:
            spoil(inside)
    if isinstance(value, list):
        value.append("spoiled")


def plain_worth(row, other):
    return sum([a * b for a, b in zip(row, other)])


def plain_fits(row, other):
    return all([a == 0 or (a * b > 0 and abs(a) <= abs(b)) for a, b in zip(row, other)])


def plain_within(own, row):
    """All changes that fit into the row, sorted."""
    ranges = [range(min(0, number), max(0, number) + 1) for number in row]
    return sorted([inside for inside in itertools.product(*ranges) if plain_worth(inside, own) == 0])


def rows_up_to(columns, length):
    if columns == 0:
        return [()]
    found = []
    for number in range(-length, length + 1):
        found += [(number,) + rest for rest in rows_up_to(columns - 1, length - abs(number))]
    return found


def plain_least(own):
    """All least changes, by their definition among all rows that are short enough."""
    greatest = max([abs(entry) for entry in own])
    bound = {0: 1, 1: 2}.get(greatest, 2 * greatest - 1)
    rows = [row for row in rows_up_to(len(own), bound) if any(row) and plain_worth(row, own) == 0]
    found = []
    for row in sorted(rows, key=lambda row: sum([abs(number) for number in row])):
        if not any([plain_fits(least, row) for least in found]):
            found.append(row)
    return sorted(found)


def plain_few(own, change):
    """The least number of least changes that add up to the change, each fitting into it."""
    least = [row for row in plain_least(own) if plain_fits(row, change)]
    level, many = {tuple(change)}, 0
    while (0,) * len(own) not in level:
        many += 1
        level = {
            tuple([a - b for a, b in zip(left, row)]) for left in level for row in least if plain_fits(row, left)
        }
    return many


def plain_pulls(table):
    return sorted({plain_worth(row, table.common) for row in plain_least(table.own)})


def plain_lots(numbers):
    """The sorted least lots of these pulls, by their definition; the greatest pull is small."""
    found = []
    if not numbers:
        return found
    for many in range(1, max(1, 2 * max(numbers)) + 1):
        for things in itertools.combinations_with_replacement(numbers, many):
            lot = {number: things.count(number) for number in things}
            if sum(things) == 0 and not any([lot_in(least, lot) for least in found]):
                found.append(lot)
    return sorted([sorted(lot.items()) for lot in found])


def lot_in(lot, other):
    return all([other.get(number, 0) >= lot[number] for number in lot])


def plain_swaps_within(table, swap):
    """All lists of rows within the swap."""
    found = []
    for rows in itertools.product(*[plain_within(table.own, change) for change in swap]):
        inside = sum([plain_worth(row, table.common) for row in rows]) == 0
        if inside and any([any(row) for row in rows]) and list(rows) != [tuple(change) for change in swap]:
            found.append(list(rows))
    return found


NO_PRICES = NO_LISTS + [
    [], (), (0,), (0, [], []), [0, []], [], (0, None), (None, []), (True, []), (False, []), ("0", []), ([], 0), (0, 0),
    (0, {}), (0, "ab"), (0, [1]), (0, [(1,)]), (0, [(1, 1, 1)]), (0, [[1, 1]]), (0, [(1, 1), [2, 1]]), (0, [(1, 0)]),
    (0, [(1, -1)]), (0, [(True, 1)]), (0, [(1, True)]), (0, [(None, 1)]), (0, [(1, "1")]), (0, [(2, 1), (2, 1)]),
    (0, [(2, 1), (1, 1)]), (0, ((1, 1), (3, 1), (2, 1))), (0, [(1, 1), (2, 1), (3, 1), (4, 1), (5, 1)]), ((0, []),),
    (0, (1, 1)), (0, [()]), (0, [None]), ((0,), []), (0, [((1,), 1)]),
]


def plain_price(price, number):
    """What a price costs, by the words of the document."""
    slope, bends = price
    return slope * number + sum([more * (number - place) for place, more in bends if place < number])


def plain_box(bounds):
    return list(itertools.product(*[range(low, high + 1) for low, high in bounds]))


def plain_houses(table, kind):
    """All house plans of a Kind, sorted."""
    return [row for row in plain_box(kind.bounds()) if plain_worth(row, table.own) == kind.rest]


def plain_house_price(kind, house):
    return sum([plain_price(price, number) for price, number in zip(kind.prices(), house)])


def plain_cost(street, layout):
    return sum([
        many * plain_house_price(kind, house) for kind, share in zip(street.kinds(), layout) for house, many in share
    ])


def plain_draw(street, layout):
    return sum([many * plain_worth(house, street.table.common) for share in layout for house, many in share])


def plain_layouts(street):
    """All layouts of a small street, told."""
    choices = []
    for kind in street.kinds():
        groups = itertools.combinations_with_replacement(plain_houses(street.table, kind), kind.many)
        choices.append([sorted([(house, group.count(house)) for house in set(group)]) for group in groups])
    return [list(layout) for layout in itertools.product(*choices)]


def plain_plans(street):
    return [layout for layout in plain_layouts(street) if plain_draw(street, layout) == street.stock]


def houses_told(share):
    """The house plans of a list of a layout, each as often as it is there."""
    return [house for house, many in share for _ in range(many)]


def some_price(source, low, high, size):
    places = sorted(source.sample(range(low - 1, high + 1), min(source.randint(0, 4), high - low + 1)))
    return (source.randint(-size, size), [(place, source.randint(1, size)) for place in places])


def some_street(source, table, houses, width, size=9):
    """A street of the table with as many kinds as numbers of houses are told, and a plan of it."""
    kinds, layout = [], []
    for many in houses:
        bounds = []
        for _ in range(table.columns):
            low = source.randint(-width, width)
            bounds.append((low, source.randint(low, width)))
        rest = plain_worth([source.randint(low, high) for low, high in bounds], table.own)
        prices = [some_price(source, low, high, size) for low, high in bounds]
        kinds.append(Kind(many, rest, bounds, prices))
        chosen = [source.choice(plain_houses(table, kinds[-1])) for _ in range(many)]
        layout.append(sorted([(house, chosen.count(house)) for house in set(chosen)]))
    street = Street(table, kinds, 0)
    return street.with_stock(plain_draw(street, layout)), layout


SHOP = Kind(3, 1, [(0, 1)] * 3, [(0, []), (1, []), (5, [])])
SHOPS = Street(SHELF, [SHOP], 3)
APART = [[((0, 0, 1), 1), ((0, 1, 0), 1), ((1, 0, 0), 1)]]
MOVE = (0, (0, 0, 1), (0, 1, -1), 1)
BACK = (0, (1, 0, 0), (-1, 1, 0), 1)
SWAP = [MOVE, BACK]
NO_STREETS = NO_LISTS + [[], (), (SHELF, [SHOP], 3), Street, SHOP]
NO_PLANS = NO_LISTS + [
    [], (), [[]], [[((0, 1, 0), 2)]], [[((0, 1, 0), 4)]], [[((1, 0, 0), 3)]], [[((0, 1, 0), True)]], APART + [[]],
    [[((0, 1, 0), 2), ((0, 1, 0), 1)]], [[((0, 1, 0), 3), ((1, 0, 0), 0)]], [[[(0, 1, 0), 3]]], [[((0, True, 0), 3)]],
    [((0, 1, 0), 3)], [[((0, 3, -2), 1), ((0, 0, 1), 2)]], [None], [{}], [[None]], [[((0, 1), 3)]],
]
NO_EXCHANGES = NO_LISTS + [
    SWAP[:1], SWAP[1:], SWAP + SWAP[:1], [MOVE, MOVE], [list(MOVE), BACK], [MOVE, list(BACK)], [MOVE[:3], BACK], [(), BACK],
    [MOVE + (1,), BACK], [None], [MOVE, None], {MOVE: True, BACK: True}, MOVE, [[MOVE, BACK]], (SWAP,),
    [(0, (0, 0, 1), (0, 0, 0), 1)], [MOVE, BACK, (0, (0, 1, 0), (0, 0, 0), 1)],
    [(0, (0, 0, 1), (0, 1, -1), 2), (0, (1, 0, 0), (-1, 1, 0), 2)],
    [(0, (0, 1, 0), (1, -1, 0), 1), (0, (0, 1, 0), (-1, 1, 0), 1)], [(0, (0, 1, 0), (1, -1, 0), 1), (0, (0, 1, 0), (0, -1, 1), 1)],
    [(1, (0, 0, 1), (0, 1, -1), 1), BACK], [(-1, (0, 0, 1), (0, 1, -1), 1), (-1, (1, 0, 0), (-1, 1, 0), 1)],
    [(0, (0, 0, 1), (0, 2, -2), 1), (0, (1, 0, 0), (-2, 2, 0), 1)], [(0, (0, 1, 0), (-1, 2, -1), 1)],
    [(0, (0, 0, 1), (0, 1, -1), 0), BACK], [(0, (0, 0, 1), (0, 1, -1), 0)], [(0, (0, 0, 1), (0, 1, -1), -1)],
    [(0, (0, 0, 1), (1, 1, -1), 1)], [(0, (0, 0, 1), (0, 1, -1), 1), (0, (1, 0, 0), (-1, 1, 0), True)],
    [(False, (0, 0, 1), (0, 1, -1), 1), BACK], [(0, (0, 0, True), (0, 1, -1), 1), BACK], [(0, (0, 0, 1), (0, True, -1), 1), BACK],
    [(0, (0, 0, 1), (0, 1, -1), GREAT), (0, (1, 0, 0), (-1, 1, 0), GREAT)],
    [(0, (0, 0, 1, 0), (0, 1, -1, 0), 1), BACK], [(0, (0, 1), (1, -1), 1), BACK],
    [(0, (2, 0, -1), (-1, 0, 1), 1), (0, (1, 0, 0), (-1, 0, 1), 1)],
]


def row_sum(row, other):
    return tuple([a + b for a, b in zip(row, other)])


def plain_is_exchange(street, plan, exchange):
    """Whether tuples of the right kinds of values are an exchange, by the words of the document."""
    names = [(kind, tuple(house), tuple(change)) for kind, house, change, _ in exchange]
    if len(set(names)) < len(names):
        return False
    for kind, house, change, many in exchange:
        if not 0 <= kind < len(street.kinds()) or many < 1 or not any(change):
            return False
        had = sum([number for other, number in plan[kind] if tuple(other) == tuple(house)])
        taken = sum([entry[3] for entry in exchange if entry[0] == kind and tuple(entry[1]) == tuple(house)])
        if had == 0 or taken > had or plain_worth(change, street.table.own) != 0:
            return False
        if row_sum(house, change) not in plain_houses(street.table, street.kinds()[kind]):
            return False
    return sum([many * plain_worth(change, street.table.common) for _, _, change, many in exchange]) == 0


def plain_done(plan, exchange):
    """The plan behind the exchange, told, house plan by house plan."""
    behind = []
    for kind, share in enumerate(plan):
        counts = {tuple(house): many for house, many in share}
        for at, house, change, many in exchange:
            if at == kind:
                counts[tuple(house)] -= many
                counts[row_sum(house, change)] = counts.get(row_sum(house, change), 0) + many
        behind.append(sorted([(house, many) for house, many in counts.items() if many]))
    return behind


def plain_moves(street, plan):
    """For each kind and house plan of the plan all changes to other house plans, as moves of one house."""
    found = []
    for kind, share in enumerate(plan):
        rows = plain_houses(street.table, street.kinds()[kind])
        for house, _ in share:
            for row in rows:
                if row != tuple(house):
                    found.append((kind, tuple(house), tuple([b - a for a, b in zip(house, row)]), 1))
    return found


def some_exchange(source, street, plan, plans):
    """An exchange that leads to one of the plans, its houses paired as it comes."""
    target = source.choice(plans)
    counts = {}
    for kind, (share, wanted) in enumerate(zip(plan, target)):
        ahead, behind = houses_told(share), houses_told(wanted)
        source.shuffle(behind)
        for house, row in zip(ahead, behind):
            if house != row:
                key = (kind, house, tuple([b - a for a, b in zip(house, row)]))
                counts[key] = counts.get(key, 0) + 1
    return [key + (many,) for key, many in counts.items()]


def small_streets(seed, many, limit=400):
    """Small streets of one and two kinds of some tables, with all their plans."""
    source = random.Random(seed)
    while many:
        columns = source.choice([1, 2, 3, 3])
        entries = source.choice([1, 2, 3])
        own = [source.randint(-entries, entries) for _ in range(columns)]
        common = [source.randint(-2, 3) for _ in range(columns)]
        houses = source.choice([[1], [2], [3], [4], [1, 1], [2, 1], [2, 2], [3, 0]])
        try:
            street, _ = some_street(source, Table(own, common), houses, source.choice([1, 2, 3]))
        except TooMany:
            continue
        ways = 1
        for kind in street.kinds():
            ways *= len(plain_houses(street.table, kind)) ** kind.many
        if ways <= limit * 6:
            plans = plain_plans(street)
            if 2 <= len(plans) <= limit:
                many -= 1
                yield street, plans


def plain_least_prices(street):
    """For each number that layouts of the street draw the least price of one, house by house."""
    prices = {0: 0}
    for kind in street.kinds():
        rows = plain_houses(street.table, kind)
        for _ in range(kind.many):
            longer = {}
            for number, price in prices.items():
                for row in rows:
                    drawn = number + plain_worth(row, street.table.common)
                    total = price + plain_house_price(kind, row)
                    longer[drawn] = min(total, longer.get(drawn, total))
            prices = longer
    return prices


def plain_sums(table, most):
    """All sums of at most so many fitting least changes, by taking one more again and again."""
    least = plain_least(table.own)
    found = {(0,) * table.columns}
    for _ in range(most):
        found |= {
            row_sum(row, part) for row in found for part in least if all([a * b >= 0 for a, b in zip(row, part)])
        }
    return found - {(0,) * table.columns}


def plain_banked(street):
    """The banked street, by the words of the document."""
    most = abs(street.stock)
    kinds = []
    for kind in street.kinds():
        sizes = [abs(entry) * max(abs(low), abs(high)) for entry, (low, high) in zip(street.table.common, kind.bounds())]
        most += kind.many * sum(sizes)
        prices = [(0, [])] * (street.table.columns + 2)
        kinds.append(Kind(kind.many, kind.rest, kind.bounds() + [(0, 0)] * 2, prices))
    bounds = [(0, 0)] * street.table.columns + [(0, most)] * 2
    kinds.append(Kind(1, 0, bounds, [(0, [])] * street.table.columns + [(1, [])] * 2))
    wide = Table(street.table.own + (0, 0), street.table.common + (1, -1))
    return Street(wide, kinds, street.stock)


def plain_bank_plan(street, layout):
    lacking = street.stock - plain_draw(street, layout)
    house = (0,) * street.table.columns + (max(0, lacking), max(0, -lacking))
    return [[(tuple(row) + (0, 0), many) for row, many in share] for share in layout] + [[(house, 1)]]
