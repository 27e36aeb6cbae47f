"""Whether a kind has house plans, and the cheapest of them, whatever its bounds [71], [72]."""

import random
import unittest

from likestreets import houses as module
from likestreets.errors import InvalidKind, InvalidStreet
from likestreets.houses import cheapest_house, has_house, house_least, some_house
from likestreets.kinds import Kind
from likestreets.plans import house_price, is_house
from likestreets.streets import Street
from likestreets.tables import Table
from helpers import (
    GREAT, NO_INTEGERS, NO_STREETS, SHELF, Case, plain_house_price, plain_houses, plain_least, plain_worth, row_sum,
    some_owns, some_price,
)

FUNCTIONS = (some_house, has_house, cheapest_house, house_least)
STEEP = (-GREAT, [(-GREAT + 1, GREAT), (0, GREAT), (GREAT - 1, GREAT)])


def street_of(own, rest, bounds, prices=None, many=1):
    kind = Kind(many, rest, bounds, prices or [(0, [])] * len(own))
    return Street(Table(own, [0] * len(own)), [kind], 0)


class HousesCase(Case):
    def check_some(self, street, kind, there):
        """A house plan is told exactly if there is one."""
        self.assertIs(has_house(street, kind), there)
        found = some_house(street, kind)
        if not there:
            self.assertIsNone(found)
            self.assertIsNone(cheapest_house(street, kind))
            self.assertIsNone(house_least(street, kind))
            return
        for house in (found, cheapest_house(street, kind)):
            self.assertTupleOfIntegers(house)
            self.assertYes(is_house, street, kind, house)
        self.assertGives(found, some_house, street, kind)
        self.assertGives(cheapest_house(street, kind), cheapest_house, street, kind)
        self.assertGives(house_price(street, kind, cheapest_house(street, kind)), house_least, street, kind)

    def check_cheapest(self, street, kind):
        """No least change makes a cheaper house plan of it [72]."""
        house, told = cheapest_house(street, kind), street.kinds()[kind]
        least = house_least(street, kind)
        self.assertEqual(plain_house_price(told, house), least)
        for change in plain_least(street.table.own):
            if is_house(street, kind, row_sum(house, change)):
                self.assertGreaterEqual(house_price(street, kind, row_sum(house, change)), least)
        self.assertGreaterEqual(house_price(street, kind, some_house(street, kind)), least)


class TestHouses(HousesCase):
    def test_interface(self):
        self.assertDefinedIn(module, "some_house", "has_house", "cheapest_house", "house_least")
        street = street_of((1, 1), 2, [(0, 2), (0, 2)], [(0, []), (1, [])], 3)
        for function in FUNCTIONS:
            self.assertParameters(function, "street", "kind")
        self.assertIs(has_house(kind=0, street=street), True)
        self.assertEqual(cheapest_house(kind=0, street=street), (2, 0))
        self.assertEqual(house_least(kind=0, street=street), 0)
        self.assertTrue(is_house(street, 0, some_house(kind=0, street=street)))
        self.assertGives((2, 0), cheapest_house, street, 0)
        self.assertGives(0, house_least, street, 0)

    def test_against_all_rows_of_the_box(self):
        source = random.Random(91)
        seen = {True: 0, False: 0}
        for columns, width in ((1, 20), (2, 9), (3, 4), (4, 2), (5, 1), (6, 1)):
            for own in some_owns(92 + columns, columns, 50):
                if columns > 4 and len(plain_least(own)) > 60:
                    continue
                bounds = []
                for _ in range(columns):
                    low = source.randint(-width, width)
                    bounds.append((low, source.randint(low, width)))
                ends = [sorted([entry * low, entry * high]) for entry, (low, high) in zip(own, bounds)]
                rest = source.randint(sum([low for low, _ in ends]) - 1, sum([high for _, high in ends]) + 1)
                street = street_of(own, rest, bounds, [some_price(source, low, high, 9) for low, high in bounds])
                rows = plain_houses(street.table, street.kinds()[0])
                self.check_some(street, 0, len(rows) > 0)
                seen[len(rows) > 0] += 1
                if rows:
                    self.assertIn(some_house(street, 0), rows)
                    self.assertIn(cheapest_house(street, 0), rows)
                    least = min([plain_house_price(street.kinds()[0], row) for row in rows])
                    self.assertGives(least, house_least, street, 0)
        self.assertGreater(min(seen.values()), 40)

    def test_each_rest_of_narrow_steps(self):
        # Every choice of few steps of each size: where the most steps of a size are one, two or three too many.
        for own in ((4, 3, 2), (4, 3, 3), (4, 3, 2, 1), (4, 2, 2), (3, 2), (4, 3), (-4, 3, -2), (4, -3, 1), (4, 3, 3, 3)):
            for room in ([3, 2, 1, 0], [1, 1, 1, 1], [5, 3, 1, 0], [2, 4, 1, 1], [4, 3, 0, 2]):
                bounds = [(-1, number - 1) for entry, number in zip(own, room)]
                sums = {plain_worth(row, own) for row in plain_rows(bounds)}
                for rest in range(min(sums) - 1, max(sums) + 2):
                    self.assertIs(has_house(street_of(own, rest, bounds), 0), rest in sums)

    def test_own_entries(self):
        self.check_some(street_of((0, 0, 0), 0, [(5, 9), (-GREAT, GREAT), (3, 3)]), 0, True)
        self.check_some(street_of((0, 0, 0), 1, [(5, 9), (-GREAT, GREAT), (3, 3)]), 0, False)
        for size in (1, 2, 3, 4):
            for rest in range(-9, 10):
                for sign in (1, -1):
                    self.check_some(street_of((size * sign,), rest, [(-2, 2)]), 0, rest % size == 0 and abs(rest) <= 2 * size)
        self.check_some(street_of((4, 4), 4 * GREAT + 2, [(0, GREAT)] * 2), 0, False)
        self.check_some(street_of((4, 2), 4 * GREAT + 2, [(0, GREAT)] * 2), 0, True)

    def test_bounds_of_many_digits(self):
        far = 10 ** 20
        self.check_some(street_of((4, 3), 4 * far + 1, [(-far, far), (0, 3)]), 0, True)
        self.check_some(street_of((4, 3), 4 * far + 1, [(-far, far), (0, 2)]), 0, False)
        self.check_some(street_of((4, -3), 5, [(-GREAT, GREAT)] * 2), 0, True)
        self.check_some(street_of((2, -4), 5, [(-GREAT, GREAT)] * 2), 0, False)
        self.check_some(street_of((3, 2), 5 * GREAT, [(-GREAT, GREAT)] * 2), 0, True)
        self.check_some(street_of((3, 2), 5 * GREAT - 1, [(-GREAT, GREAT)] * 2), 0, False)
        self.check_some(street_of((3, 2), 5 * GREAT - 2, [(-GREAT, GREAT)] * 2), 0, True)
        self.check_some(street_of((1, 1), -2 * GREAT - 1, [(-GREAT, GREAT)] * 2), 0, False)

    def test_columns_held_still(self):
        street = street_of((1, 2, 3), 9, [(2, 2), (2, 2), (1, 1)], [(5, []), (0, [(0, 3)]), (-1, [])])
        self.check_some(street, 0, True)
        self.assertGives((2, 2, 1), some_house, street, 0)
        self.assertGives(10 + 6 - 1, house_least, street, 0)
        self.check_some(street_of((1, 2, 3), 8, [(2, 2), (2, 2), (1, 1)]), 0, False)
        self.check_some(street_of((1, 2, 3), 8, [(2, 2), (1, 2), (1, 1)]), 0, False)
        self.check_some(street_of((1, 2, 3), 7, [(2, 2), (1, 2), (1, 1)]), 0, True)

    def test_no_houses(self):
        street = street_of((1, 1), 2, [(0, 2), (0, 2)], [(0, []), (-1, [])], 0)
        self.check_some(street, 0, True)
        self.assertGives((0, 2), cheapest_house, street, 0)
        self.check_some(street_of((2, 2), 3, [(0, 2), (0, 2)], None, 0), 0, False)

    def test_kinds_of_one_street(self):
        kinds = [Kind(1, 1, [(0, 1)] * 3, [(4, []), (5, []), (6, [])]), Kind(1, 7, [(0, 2)] * 3, [(0, [])] * 3),
                 Kind(0, 6, [(0, 2)] * 3, [(1, [])] * 3)]
        street = Street(SHELF, kinds, 0)
        self.assertEqual([has_house(street, kind) for kind in range(3)], [True, False, True])
        self.assertEqual([house_least(street, kind) for kind in range(3)], [4, None, 6])
        self.assertEqual([cheapest_house(street, kind) for kind in range(3)], [(1, 0, 0), None, (2, 2, 2)])

    def test_cheapest_of_many(self):
        source = random.Random(93)
        for own in some_owns(94, 3, 12) + some_owns(95, 4, 8) + some_owns(96, 5, 3) + [(1, 1, 1, 1, 1, 1), (1, 2, 3, 4, -3, -4)]:
            for size in (10 ** 6, 10 ** 20):
                bounds, prices = [], []
                for _ in own:
                    low = source.randint(-size, size)
                    bounds.append((low, source.randint(low, size)))
                    places = sorted({source.randint(*bounds[-1]) for _ in range(4)})
                    prices.append((source.randint(-GREAT, GREAT), [(place, source.randint(1, GREAT)) for place in places]))
                rest = plain_worth([source.randint(low, high) for low, high in bounds], own)
                street = street_of(own, rest, bounds, prices)
                self.check_some(street, 0, True)
                self.check_cheapest(street, 0)

    def test_cheapest_at_a_bend(self):
        street = street_of((1, -1), 0, [(-GREAT, GREAT)] * 2, [(-5, [(10 ** 20 + 7, 6)]), (0, [])])
        self.assertGives((10 ** 20 + 7,) * 2, cheapest_house, street, 0)
        self.assertGives(-5 * (10 ** 20 + 7), house_least, street, 0)
        street = street_of((0,), 0, [(-GREAT, GREAT)], [STEEP])
        self.check_cheapest(street, 0)
        self.assertGives((-1) * GREAT * (-GREAT + 1), house_least, street, 0)
        edge = street_of((1, 1), 0, [(-GREAT, GREAT)] * 2, [(1, []), (0, [])])
        self.assertGives((-GREAT, GREAT), cheapest_house, edge, 0)


def plain_rows(bounds):
    rows = [()]
    for low, high in bounds:
        rows = [row + (number,) for row in rows for number in range(low, high + 1)]
    return rows


class TestErrors(Case):
    def test_errors(self):
        street = street_of((1, 1), 2, [(0, 2), (0, 2)])
        for function in FUNCTIONS:
            for value in NO_STREETS:
                self.assertInvalid(InvalidStreet, value, function, value, None)
            for value in NO_INTEGERS + [-1, 1, GREAT]:
                self.assertInvalid(InvalidKind, value, function, street, value)


if __name__ == "__main__":
    unittest.main()
