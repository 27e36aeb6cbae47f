"""Ways from plan to plan by exchanges of few houses [66]."""

import random
import unittest
from unittest import mock

from likestreets import towards as module
from likestreets.errors import InvalidPlan, InvalidStreet, TooMany
from likestreets.exchanges import done, exchange_to, is_exchange, touched
from likestreets.kinds import Kind
from likestreets.least import least_changes
from likestreets.plans import apart, is_plan
from likestreets.saved import saving
from likestreets.scales import repeated
from likestreets.streets import Street
from likestreets.stuck import stuck_street
from likestreets.tables import Table
from likestreets.towards import is_towards, towards
from helpers import (
    APART, GREAT, NO_EXCHANGES, NO_LISTS, NO_OWN, NO_PLANS, NO_STREETS, ONE_FREE, RANK_0, SHELF, SHOPS, SWAP, TWO_WAYS,
    Case, plain_cost, plain_done, plain_draw, plain_is_exchange, row_sum, small_streets,
)

EVEN = Street(Table((1, 1), (0, 1)), [Kind(4, 2, [(0, 2), (0, 2)], [(0, []), (0, [(1, 1)])])], 4)
ENDS = [[((0, 2), 2), ((2, 0), 2)]]
MIDDLE = [[((1, 1), 4)]]
ONE = [(0, (0, 2), (1, -1), 1), (0, (2, 0), (-1, 1), 1)]
SIDES = Street(Table((1, 1), (0, 1)), [Kind(10 ** 20, 1, [(0, 1)] * 2, [(0, [])] * 2), Kind(10 ** 20, 1, [(0, 1)] * 2, [(0, [])] * 2)], 300)
WIDE_TABLES = [SHELF, TWO_WAYS, NO_OWN, ONE_FREE, Table((3, 4, 0), (4, -4, 1)), Table((1, 2, -3, 4), (1, 0, 0, -1)),
               Table((1, 1), (1, 1)), Table((0, 2, -3, 4, 1, 1), (1, 1, 0, 1, 0, 0))]


def at_the_side(first):
    """The plan of SIDES in which so many houses of the first kind take a piece of the stock."""
    return [[((0, 1), first), ((1, 0), 10 ** 20 - first)], [((0, 1), 300 - first), ((1, 0), 10 ** 20 - 300 + first)]]


def wide_street(source, table, many, size):
    """A street of two kinds, a plan of nothing but noughts, and a target in which each of many houses has its own way."""
    least = least_changes(table)
    ways = []
    for _ in range(many):
        way = (0,) * table.columns
        for _ in range(source.randint(1, 4)):
            times = source.randint(1, size)
            way = row_sum(way, [times * number for number in source.choice(least)])
        ways.append(way)
    back = [tuple([-number for number in way]) for way in ways]
    kinds, plan, target = [], [], []
    for rows in (ways, back):
        bounds = [(min(0, min(column)), max(0, max(column))) for column in zip(*rows)]
        kinds.append(Kind(len(rows), 0, bounds, [(0, [])] * table.columns))
        plan.append([((0,) * table.columns, len(rows))])
        target.append([(row, rows.count(row)) for row in sorted(set(rows))])
    return Street(table, kinds, 0), plan, target


class TowardsCase(Case):
    def check(self, street, plan, target):
        """The swaps towards the target lead there, each by few houses, between the plans; returns how many."""
        found = towards(street, plan, target)
        self.assertIs(type(found), list)
        self.assertLessEqual(len(found), 1000)
        now = plan
        for exchange in found:
            self.assertExchange(exchange)
            self.assertTrue(is_exchange(street, now, exchange))
            self.assertLessEqual(touched(street, now, exchange), street.reach)
            now = done(street, now, exchange)
        self.assertEqual(now, [sorted([(tuple(row), many) for row, many in share]) for share in target])
        self.assertYes(is_towards, street, plan, target, found)
        self.assertGives([exchange[:] for exchange in found], towards, street, plan, target)
        return len(found)


class TestTowards(TowardsCase):
    def test_interface(self):
        self.assertDefinedIn(module, "towards", "is_towards")
        self.assertParameters(towards, "street", "plan", "target")
        self.assertParameters(is_towards, "street", "plan", "target", "value")
        self.assertEqual(towards(target=APART, plan=APART, street=SHOPS), [])
        self.assertTrue(is_towards(value=[ONE, ONE], target=MIDDLE, plan=ENDS, street=EVEN))

    def test_told_alike(self):
        self.assertGives([], towards, EVEN, ENDS, [[((2, 0), 2), ([0, 2], 2)]])
        self.assertGives([], towards, EVEN, (tuple(MIDDLE[0]),), MIDDLE)
        nobody = Street(SHELF, [Kind(0, 9, [(0, 1)] * 3, [(0, [])] * 3)] * 2, 0)
        self.assertGives([], towards, nobody, [[], []], ((), []))
        alone = Street(RANK_0, [Kind(10 ** 20, 6, [(-9, 9)], [(5, [])])], 2 * 10 ** 20)
        self.assertGives([], towards, alone, [[((2,), 10 ** 20)]], [[([2], 10 ** 20)]])

    def test_told(self):
        self.check(EVEN, ENDS, MIDDLE)
        self.check(EVEN, MIDDLE, [[([2, 0], 2), ([0, 2], 2)]])
        self.assertEqual(self.check(SHOPS, APART, [[((0, 1, 0), 3)]]), 1)
        self.assertEqual(self.check(SHOPS, tuple([tuple(share) for share in APART]), [[([0, 1, 0], 3)]]), 1)

    def test_against_all_plans(self):
        for street, plans in small_streets(81, 120):
            for plan, target in zip(plans[::5], plans[::-1]):
                self.check(street, plan, target)
                self.check(street, target, plan)

    def test_all_houses_at_once(self):
        for table in (SHELF, ONE_FREE, Table((0, 0), (4, -3)), Table((3, 4, 0), (4, -4, 0))):
            street, plan, target = stuck_street(table)
            self.assertEqual(self.check(street, plan, target), 1)

    def test_long_ways(self):
        source = random.Random(82)
        for table in WIDE_TABLES:
            for size in (1, 9, 10 ** 20):
                street, plan, target = wide_street(source, table, source.choice([1, 5, 30]), size)
                self.check(street, plan, target)
                self.check(street, target, plan)
        street = Street(SHELF, [Kind(2, 1, [(-GREAT, GREAT)] * 3, [(0, [])] * 3)], 3)
        plan, target = [[((-GREAT, GREAT, 1), 1), ((GREAT, 1 - GREAT, 0), 1)]], [[((0, 0, 1), 1), ((0, 1, 0), 1)]]
        self.check(street, plan, target)
        self.check(street, target, plan)

    def test_sixty_houses_and_sixty_one(self):
        plan = at_the_side(100)
        self.assertEqual(apart(SIDES, plan, at_the_side(130)), 60)
        self.assertEqual(self.check(SIDES, plan, at_the_side(130)), 30)
        self.assertTooMany("houses", 60, towards, SIDES, plan, at_the_side(131))
        self.assertNo(is_towards, SIDES, plan, at_the_side(131), [])
        one = [(0, (1, 0), (-1, 1), 1), (1, (0, 1), (1, -1), 1)]
        self.assertYes(is_towards, SIDES, plan, at_the_side(131), [one] * 31)
        self.assertYes(is_towards, SIDES, plan, at_the_side(200), [one] * 100)
        odd = Street(Table((1, 1), (1, 1)), [Kind(61, 1, [(0, 1)] * 2, [(0, [])] * 2)], 61)
        left, right = [[((0, 1), 61)]], [[((1, 0), 61)]]
        self.assertTooMany("houses", 60, towards, odd, left, right)
        self.assertEqual(self.check(odd, left, [[((1, 0), 60), ((0, 1), 1)]]), 60)

    def test_some_swap_betters_if_the_target_is_cheaper(self):
        for street, plans in small_streets(83, 60):
            prices = [(plain_cost(street, plan), at) for at, plan in enumerate(plans)]
            plan, target = plans[max(prices)[1]], plans[min(prices)[1]]
            now, savings = plan, []
            for exchange in towards(street, plan, target):
                savings.append(saving(street, now, exchange))
                now = done(street, now, exchange)
            self.assertEqual(sum(savings), max(prices)[0] - min(prices)[0])
            self.assertEqual(any([saved > 0 for saved in savings]), sum(savings) > 0)


class TestIsTowards(TowardsCase):
    def test_yes_and_no(self):
        twice = repeated(EVEN, ENDS, ONE, 2)
        away = [(0, (1, 1), (1, -1), 1), (0, (1, 1), (-1, 1), 1)]
        for value in ([ONE, ONE], (tuple(ONE), ONE[::-1]), [ONE, [], ONE], [[], ONE, (), ONE, []], [ONE, away, ONE, ONE],
                      [[(0, [0, 2], [1, -1], 1), ONE[1]], ONE]):
            self.assertYes(is_towards, EVEN, ENDS, MIDDLE, value)
        for value in ([ONE], [], (), [ONE, ONE, ONE], [twice], [[], twice], [ONE, ONE, away], ONE, [[ONE, ONE]], [ONE, ONE, None],
                      [None, ONE, ONE], {0: ONE, 1: ONE}, [ONE[:1], ONE], [ONE[:1], ONE[1:], ONE], [ONE, ONE[1:]]):
            self.assertNo(is_towards, EVEN, ENDS, MIDDLE, value)
        self.assertYes(is_towards, EVEN, MIDDLE, MIDDLE, [])
        self.assertYes(is_towards, EVEN, MIDDLE, MIDDLE, ())
        self.assertYes(is_towards, EVEN, MIDDLE, MIDDLE, [[], []])
        self.assertYes(is_towards, EVEN, MIDDLE, ([([1, 1], 4)],), [away, ONE])
        self.assertNo(is_towards, EVEN, MIDDLE, ENDS, [away])

    def test_as_many_houses_as_the_reach_and_one_more(self):
        street, plan, target = stuck_street(SHELF)
        whole = exchange_to(street, plan, target)
        self.assertEqual(touched(street, plan, whole), street.reach)
        self.assertYes(is_towards, street, plan, target, [whole])
        wider = Street(SHELF, [Kind(4, 1, [(0, 1)] * 3, [(0, [])] * 3)], 4)
        ahead, behind = [[((0, 0, 1), 2), ((1, 0, 0), 2)]], [[((0, 1, 0), 4)]]
        three = [(0, (0, 0, 1), (0, 1, -1), 1), (0, (1, 0, 0), (-1, 1, 0), 1)]
        four = exchange_to(wider, ahead, behind)
        self.assertEqual(touched(wider, ahead, four), 4)
        self.assertNo(is_towards, wider, ahead, behind, [four])
        self.assertYes(is_towards, wider, ahead, behind, [three, three])

    def test_against_the_words(self):
        source = random.Random(84)
        seen = {True: 0, False: 0}
        for street, plans in small_streets(85, 100):
            plan, target = source.choice(plans), source.choice(plans)
            value, now, right = [], plan, True
            for _ in range(source.randint(0, 3)):
                goal = target if source.random() < 0.6 else source.choice(plans)
                exchange = exchange_to(street, now, goal)
                right = right and sum([many for _, _, _, many in exchange]) <= street.reach
                self.assertTrue(plain_is_exchange(street, now, exchange))
                now = plain_done(now, exchange)
                value.append(exchange)
            right = right and now == target
            seen[right] += 1
            self.assertIs(is_towards(street, plan, target, value), right)
        self.assertGreater(min(seen.values()), 15)

    def test_any_value(self):
        for value in NO_LISTS:
            self.assertNo(is_towards, EVEN, ENDS, MIDDLE, value)
        for value in NO_EXCHANGES:
            self.assertNo(is_towards, SHOPS, APART, [[((0, 1, 0), 3)]], [value])
            self.assertNo(is_towards, SHOPS, APART, [[((0, 1, 0), 3)]], [SWAP, value])
        self.assertYes(is_towards, SHOPS, APART, [[((0, 1, 0), 3)]], [SWAP])


class TestErrors(Case):
    def test_errors(self):
        for value in NO_STREETS:
            self.assertInvalid(InvalidStreet, value, towards, value, None, None)
            self.assertInvalid(InvalidStreet, value, is_towards, value, None, None, None)
        for value in NO_PLANS:
            self.assertInvalid(InvalidPlan, value, towards, SHOPS, value, None)
            self.assertInvalid(InvalidPlan, value, towards, SHOPS, APART, value)
            self.assertInvalid(InvalidPlan, value, is_towards, SHOPS, value, [], None)
            self.assertInvalid(InvalidPlan, value, is_towards, SHOPS, APART, value, None)
        other = [[((0, 1, 0), 2), ((0, 0, 1), 1)]]
        self.assertInvalid(InvalidPlan, other, towards, SHOPS, APART, other)
        self.assertInvalid(InvalidPlan, other, towards, SHOPS, other, APART)

    def test_the_limit_is_behind(self):
        with mock.patch("likestreets.towards.MOST_APART", 1):
            self.assertTooMany("houses", 1, towards, SHOPS, APART, [[((0, 1, 0), 3)]])
            self.assertInvalid(InvalidPlan, [[]], towards, SHOPS, APART, [[]])
        with mock.patch("likestreets.towards.MOST_APART", 2):
            self.assertEqual(len(towards(SHOPS, APART, [[((0, 1, 0), 3)]])), 1)


if __name__ == "__main__":
    unittest.main()
