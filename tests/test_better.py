"""Best plans, and few houses by which others are bettered [4], [54], [55]."""

import random
import unittest
from unittest import mock

from likestreets import better as module
from likestreets.better import better, is_best
from likestreets.errors import InvalidPlan, InvalidStreet
from likestreets.exchanges import done
from likestreets.kinds import Kind
from likestreets.parted import few_parts
from likestreets.plans import layout_price
from likestreets.reach import reach
from likestreets.saved import saving
from likestreets.streets import Street
from likestreets.stuck import stuck_street
from likestreets.sums import sums_of
from likestreets.tables import Table
from helpers import (
    APART, NO_OWN, NO_PLANS, NO_STREETS, ONE_FREE, RANK_0, SHELF, SHOPS, TABLE_196, TWO_WAYS, Case, plain_cost,
    plain_plans, plain_sums, small_streets, some_street,
)

SUMS_1986 = Table((3, -4, 0, -1), (2, -1, 2, 1))
SUMS_2016 = Table((-1, 2, -3), (2, -3, -1))
REACHES = [
    (RANK_0, 0), (Table((1, 1), (1, 1)), 1), (Table((2, -4), (1, -2)), 1), (TABLE_196, 1), (Table((2, 3), (1, 0)), 2),
    (ONE_FREE, 2), (SHELF, 3), (NO_OWN, 3), (TWO_WAYS, 3), (Table((0, 0), (2, 3)), 5), (Table((0, 0), (4, -3)), 7),
    (Table((1, 1, 1, 1), (0, 1, 2, 3)), 5), (Table((1, 2, 3), (1, 0, 0)), 5), (Table((3, 4, 0), (4, -4, 1)), 29),
]


def still(many, columns):
    return Kind(many, 0, [(0, 0)] * columns, [(0, [])] * columns)


def nought(many, columns):
    return [((0,) * columns, many)] if many else []


class TestSums(Case):
    def test_sums(self):
        for table, most in REACHES:
            self.assertEqual(reach(table), most)
            if most < 10:
                found = sums_of(table, most)
                wanted = plain_sums(table, most)
                self.assertEqual(sorted(found), sorted(wanted))
                for row in sorted(wanted)[::17]:
                    self.assertEqual(found[row], few_parts(table, row))

    def test_the_least_number_of_parts(self):
        self.assertEqual(sums_of(TWO_WAYS, 3)[(3, 3, -3)], 2)
        self.assertEqual(sums_of(SHELF, 3)[(-1, 2, -1)], 2)
        self.assertNotIn((-1, 2, -1), sums_of(SHELF, 1))

    def test_just_as_many_sums_as_are_let(self):
        for table, most in REACHES[1:12]:
            many = len(plain_sums(table, most))
            with mock.patch("likestreets.sums.MOST_SUMS", many):
                self.assertEqual(len(sums_of(table, most)), many)
            with mock.patch("likestreets.sums.MOST_SUMS", many - 1):
                self.assertTooMany("sums", many - 1, sums_of, table, most)

    def test_most_sums(self):
        self.assertEqual(len(plain_sums(SUMS_1986, reach(SUMS_1986))), 1986)
        self.assertEqual(len(plain_sums(SUMS_2016, reach(SUMS_2016))), 2016)
        for many in (0, 1, 3):
            self.assertBest(Street(SUMS_1986, [still(many, 4)], 0), [nought(many, 4)])
            street = Street(SUMS_2016, [still(many, 3)], 0)
            self.assertTooMany("sums", 2000, better, street, [nought(many, 3)])
            self.assertTooMany("sums", 2000, is_best, street, [nought(many, 3)])
        for value in NO_PLANS + [[nought(3, 3)] * 2]:
            self.assertInvalid(InvalidPlan, value, better, street, value)
            self.assertInvalid(InvalidPlan, value, is_best, street, value)
        prices = [(0, [(-5, 1), (0, 2)]), (1, []), (-1, [(0, 2)]), (0, [])]
        self.assertBetters(Street(SUMS_1986, [Kind(3, 0, [(-9, 9)] * 4, prices)], 0), [nought(3, 4)])


class TestBetter(Case):
    def test_interface(self):
        self.assertDefinedIn(module, "better", "is_best")
        self.assertParameters(better, "street", "plan")
        self.assertParameters(is_best, "street", "plan")
        self.assertIsNone(better(plan=[[((0, 1, 0), 3)]], street=SHOPS))
        self.assertIs(is_best(plan=APART, street=SHOPS), False)

    def test_told(self):
        self.assertBetters(SHOPS, APART)
        self.assertBetters(SHOPS, ((([1, 0, 0], 1), ((0, 1, 0), 1), ([0, 0, 1], 1)),))
        self.assertBest(SHOPS, [[((0, 1, 0), 3)]])
        self.assertBest(SHOPS, ((([0, 1, 0], 3),),))

    def test_against_all_plans(self):
        reaches = {}
        for street, plans in small_streets(51, 250):
            reaches[street.reach] = True
            least = min([plain_cost(street, plan) for plan in plans])
            for plan in plans[:12]:
                if plain_cost(street, plan) == least:
                    self.assertBest(street, plan)
                else:
                    self.assertBetters(street, plan)
        self.assertTrue(all([number in reaches for number in range(1, 6)]), reaches)

    def test_one_behind_another_to_a_best_plan(self):
        source = random.Random(12)
        for street, plans in small_streets(52, 60):
            plan = source.choice(plans)
            least = min([plain_cost(street, other) for other in plans])
            while not is_best(street, plan):
                exchange = self.assertBetters(street, plan)
                behind = done(street, plan, exchange)
                self.assertEqual(layout_price(street, plan) - layout_price(street, behind), saving(street, plan, exchange))
                plan = behind
            self.assertEqual(plain_cost(street, plan), least)

    def test_as_many_houses_as_the_reach(self):
        for table, most in REACHES:
            if most in range(1, 15):
                street, plan, target = stuck_street(table)
                exchange = self.assertBetters(street, plan)
                self.assertEqual(sum([many for _, _, _, many in exchange]), most)
                self.assertEqual(done(street, plan, exchange), target)
                self.assertBest(street, target)

    def test_as_many_houses_as_the_reach_among_many(self):
        street, plan, target = stuck_street(SHELF)
        giant = Street(SHELF, [kind.with_many(10 ** 20) for kind in street.kinds()], 0)
        plan = [[(share[0][0], 10 ** 20)] for share in plan]
        exchange = self.assertBetters(giant, plan)
        self.assertEqual(sum([many for _, _, _, many in exchange]), 3)
        self.assertNo(is_best, giant, done(giant, plan, exchange))

    def test_a_sum_of_several_least_changes_in_one_house(self):
        one = Street(SHELF, [Kind(1, 2, [(0, 2)] * 3, [(1, []), (0, []), (0, [])])], 2)
        self.assertEqual(len(plain_plans(one)), 2)
        self.assertEqual(self.assertBetters(one, [[((1, 0, 1), 1)]]), [(0, (1, 0, 1), (-1, 2, -1), 1)])
        self.assertBest(one, [[((0, 2, 0), 1)]])
        # One house does two least changes for the one of another house.
        table = Table((0, 0, 0), (1, 2, 0))
        kinds = [Kind(1, 0, [(0, 2), (0, 0), (0, 0)], [(3, []), (0, []), (0, [])]),
                 Kind(1, 0, [(0, 0), (0, 1), (0, 0)], [(0, []), (5, []), (0, [])])]
        two = Street(table, kinds, 2)
        self.assertEqual(sorted(self.assertBetters(two, [[((2, 0, 0), 1)], [((0, 0, 0), 1)]])),
                         [(0, (2, 0, 0), (-2, 0, 0), 1), (1, (0, 0, 0), (0, 1, 0), 1)])
        self.assertBest(two, [[((0, 0, 0), 1)], [((0, 1, 0), 1)]])

    def test_houses_of_a_house_plan_are_not_taken_twice(self):
        # Two houses like the first one would save more together than the second one costs; there is one.
        kinds = [Kind(1, 1, [(0, 1), (0, 1), (0, 0)], [(5, []), (0, []), (0, [])]),
                 Kind(1, 1, [(0, 1), (0, 0), (0, 1)], [(8, []), (0, []), (0, [])])]
        self.assertBest(Street(SHELF, kinds, 2), [[((1, 0, 0), 1)], [((0, 0, 1), 1)]])
        more = Street(SHELF, [kinds[0].with_many(2), kinds[1]], 2)
        self.assertBetters(more, [[((1, 0, 0), 2)], [((0, 0, 1), 1)]])
        self.assertBest(more, [[((0, 1, 0), 2)], [((1, 0, 0), 1)]])

    def test_one_to_five_kinds(self):
        source = random.Random(13)
        for houses in ([1] * 5, [2, 0, 1, 0, 1], [0] * 5, [5, 5, 5, 5, 5]):
            for _ in range(6):
                street, plan = some_street(source, Table((1, -1, 2), (1, 2, 0)), houses, 2)
                if is_best(street, plan):
                    self.assertBest(street, plan)
                else:
                    self.assertBetters(street, plan)
        self.assertBest(Street(SHELF, [still(0, 3)] * 5, 0), [[]] * 5)

    def test_parted_kinds(self):
        kind = Kind(5, 3, [(0, 3), (-1, 2), (0, 2)], [(0, [(1, 3)]), (2, [(0, 1), (1, 1)]), (1, [(1, 4)])])
        whole = Street(SHELF, [kind], 7)
        parted = Street(SHELF, [kind.with_many(2), kind.with_many(3)], 7)
        prices = {}
        for street in (whole, parted):
            found = [plan for plan in plain_plans(street) if is_best(street, plan)]
            prices[street.kinds()[0].many] = sorted({plain_cost(street, plan) for plan in found})
        self.assertEqual(prices[5], prices[2])
        self.assertEqual(len(prices[5]), 1)

    def test_twenty_digits(self):
        kind = Kind(3 * 10 ** 20, 1, [(0, 1)] * 3, [(0, []), (10 ** 20, []), (3 * 10 ** 20, [(-1, 1)])])
        street = Street(SHELF, [kind], 3 * 10 ** 20)
        self.assertBest(street, [[((0, 1, 0), 3 * 10 ** 20)]])
        self.assertBetters(street, [[((0, 0, 1), 1), ((0, 1, 0), 3 * 10 ** 20 - 2), ((1, 0, 0), 1)]])
        wide = Kind(2, 10 ** 20, [(0, 10 ** 20)] * 3, [(0, [(7, 1)]), (1, []), (0, [(10 ** 19, 10 ** 20)])])
        street = Street(SHELF, [wide], 2 * 10 ** 20)
        self.assertBetters(street, [[((0, 10 ** 20, 0), 2)]])

    def test_errors(self):
        for function in (better, is_best):
            for value in NO_STREETS:
                self.assertInvalid(InvalidStreet, value, function, value, APART)
                self.assertInvalid(InvalidStreet, value, function, value, None)
            for value in NO_PLANS:
                self.assertInvalid(InvalidPlan, value, function, SHOPS, value)
            self.assertInvalid(InvalidPlan, APART, function, SHOPS.with_stock(4), APART)


if __name__ == "__main__":
    unittest.main()
