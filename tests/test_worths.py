"""The worths of stocks [83]."""

import random
import unittest

from likestreets import worths as module
from likestreets.errors import InvalidMany, InvalidStreet, TooMany
from likestreets.kinds import Kind
from likestreets.reach import reach
from likestreets.streets import Street
from likestreets.tables import Table, widened
from likestreets.worths import worth_of, worths
from helpers import GREAT, NO_INTEGERS, NO_STREETS, RANK_0, SHELF, Case, plain_least_prices, small_streets, some_street
from test_bank import FIVE_COLUMNS, LOTS_201, WIDE_SUMS, still
from test_nexts import ROW

FREE = (0, [])
STEPS = Street(Table((0, 0), (1, 2)), [Kind(1, 0, [(0, 5), (0, 5)], [(1, []), (1, [])])], 0)


class TestWorths(Case):
    def test_interface(self):
        self.assertDefinedIn(module, "worth_of", "worths")
        self.assertParameters(worth_of, "street")
        self.assertParameters(worths, "street", "many")
        self.assertEqual(worth_of(street=ROW), 1)
        self.assertEqual(worths(many=7, street=ROW), [1, 2, 3, 5, 7, 9, None])

    def test_told(self):
        self.assertGives(1, worth_of, ROW)
        self.assertGives([1, 2, 3, 5, 7, 9, None], worths, ROW, 7)
        self.assertGives([0, 1, 1, 2, 2, 3], worths, STEPS, 6)
        self.assertGives([None, None, 0, 1, 1, 2, 2, 3, 3, 4, 4, 5], worths, STEPS.with_stock(-2), 12)
        self.assertGives([10, None], worths, STEPS.with_stock(15), 2)
        self.assertGives([9], worths, ROW.with_stock(6), 1)

    def test_against_all_layouts(self):
        seen = {True: 0, False: 0}
        for street, _ in small_streets(121, 50):
            least = plain_least_prices(street)
            start = random.Random(street.stock).choice(sorted(least)) - 2
            try:
                wanted = [least.get(start + more) for more in range(5)]
                self.assertGives(wanted, worths, street.with_stock(start), 5)
                self.assertGives(wanted[2], worth_of, street.with_stock(start + 2))
            except TooMany as error:
                self.assertIn(error.what, ("sums", "lots"))
                continue
            seen[None in wanted] += 1
        self.assertGreater(min(seen.values()), 3)

    def test_against_the_cheapest_house_by_house(self):
        source = random.Random(122)
        for own, common in (((1, 1, 1), (0, 1, 2)), ((1, 2, 3), (1, 0, 0)), ((2, 3), (1, -1)), ((0, 0, 1), (2, 3, 1)), ((1, 1), (2, 2))):
            for _ in range(3):
                street, _ = some_street(source, Table(own, common), [source.randint(0, 6) for _ in range(source.randint(1, 4))], 4, 20)
                least = plain_least_prices(street)
                stock = source.choice(sorted(least)) - 1
                self.assertGives([least.get(stock + more) for more in range(3)], worths, street.with_stock(stock), 3)

    def test_no_layout_no_plan_and_far_beyond(self):
        nothing = Street(SHELF, [Kind(2, 4, [(0, 1)] * 3, [FREE] * 3)], 0)
        self.assertGives(None, worth_of, nothing)
        self.assertGives([None] * 12, worths, nothing, 12)
        self.assertGives(None, worth_of, ROW.with_stock(GREAT))
        self.assertGives(None, worth_of, ROW.with_stock(-GREAT))
        self.assertGives([0, None, None], worths, Street(SHELF, [Kind(0, 9, [(0, 1)] * 3, [FREE] * 3)] * 4, 0), 3)
        self.assertGives([10 ** 21, None], worths, Street(RANK_0, [Kind(10 ** 20, 6, [(-9, 9)], [(5, [])])], 2 * 10 ** 20), 2)

    def test_many_houses(self):
        many = 10 ** 20
        street = ROW.with_kind(0, ROW.kinds()[0].with_many(many))
        self.assertGives([many - 2, many - 1, many, many + 2, many + 4], worths, street.with_stock(many - 2), 5)
        self.assertGives([3 * many - 2, 3 * many, None], worths, street.with_stock(2 * many - 1), 3)

    def test_each_piece_more_costs_at_least_as_much_where_the_widened_reach_is_two(self):
        source = random.Random(123)
        for own, common in (((1, 1), (0, 1)), ((0,), (1,)), ((0, 0), (1, -1)), ((1, 1, 1), (0, 1, 0)), ((1, -1, 0), (1, 0, 0))):
            self.assertEqual(reach(widened(Table(own, common))), 2)
            for _ in range(3):
                street, _ = some_street(source, Table(own, common), [source.randint(1, 4), source.randint(0, 3)], 3)
                found = worths(street.with_stock(street.stock - 4), 12)
                there = [worth for worth in found if worth is not None]
                first = found.index(there[0])
                self.assertEqual(found[first:first + len(there)], there)
                costs = [behind - ahead for ahead, behind in zip(there, there[1:])]
                self.assertEqual(costs, sorted(costs))


class TestErrors(Case):
    def test_errors(self):
        for value in NO_STREETS:
            self.assertInvalid(InvalidStreet, value, worth_of, value)
            self.assertInvalid(InvalidStreet, value, worths, value, None)
        for value in NO_INTEGERS + [0, -1, 13, GREAT]:
            self.assertInvalid(InvalidMany, value, worths, ROW, value)
            self.assertInvalid(InvalidMany, value, worths, still(SHELF, 5), value)
        self.assertEqual(len(worths(ROW, 1)), 1)
        self.assertEqual(len(worths(ROW, 12)), 12)

    def test_limits(self):
        for what, limit, street in (("kinds", 5, still(SHELF, 5)), ("kinds", 5, still(FIVE_COLUMNS, 5)), ("columns", 6, still(FIVE_COLUMNS, 4)),
                                    ("lots", 300, still(LOTS_201, 4)), ("sums", 2000, still(WIDE_SUMS, 1))):
            self.assertTooMany(what, limit, worth_of, street)
            self.assertTooMany(what, limit, worths, street, 2)


if __name__ == "__main__":
    unittest.main()
