"""All plans, the best ones, and what surely and perhaps stands in them [84], [85]."""

import random
import unittest

from likestreets import sure as module
from likestreets.errors import InvalidKind, InvalidStreet
from likestreets.exchanges import done, touched
from likestreets.kinds import Kind
from likestreets.plans import layout_price
from likestreets.saved import saving
from likestreets.streets import Street
from likestreets.sure import all_plans, best_plans, count_plans, maybe_houses, sure_houses
from likestreets.tables import Table
from likestreets.towards import towards
from helpers import GREAT, NO_INTEGERS, NO_STREETS, RANK_0, SHELF, Case, plain_cost, plain_draw, plain_layouts, small_streets
from test_nexts import ROW

FREE = (0, [])
WITH_STREET = (count_plans, all_plans, best_plans)
WITH_KIND = (sure_houses, maybe_houses)


def loose_street(*kinds):
    """A street of one column that draws nothing; the kinds are told as (many, how many house plans)."""
    return Street(Table((0,), (0,)), [Kind(many, 0, [(1, rows)], [FREE]) for many, rows in kinds], 0)


def plain_standing(plans, kind):
    """The house plans of the kind in all of the plans, and in some of them."""
    rows = [{house for house, many in plan[kind]} for plan in plans]
    if not rows:
        return [], []
    return sorted(set.intersection(*rows)), sorted(set.union(*rows))


class TestSure(Case):
    def check(self, street, plans):
        """The plans of the street are just these, and nothing else is told of them than what they show."""
        self.assertGives(len(plans), count_plans, street)
        self.assertGives(plans, all_plans, street)
        least = min([plain_cost(street, plan) for plan in plans], default=None)
        best = [plan for plan in plans if plain_cost(street, plan) == least]
        self.assertGives(best, best_plans, street)
        for kind in range(len(street.kinds())):
            surely, perhaps = plain_standing(best, kind)
            self.assertGives(surely, sure_houses, street, kind)
            self.assertGives(perhaps, maybe_houses, street, kind)

    def test_interface(self):
        self.assertDefinedIn(module, "count_plans", "all_plans", "best_plans", "sure_houses", "maybe_houses")
        for function in WITH_STREET:
            self.assertParameters(function, "street")
        for function in WITH_KIND:
            self.assertParameters(function, "street", "kind")
        self.assertEqual(count_plans(street=ROW.with_stock(3)), 2)
        self.assertEqual(sure_houses(kind=0, street=ROW.with_stock(2)), [(1, 1), (2, 0)])
        self.assertEqual(maybe_houses(kind=0, street=ROW.with_stock(3)), [(1, 1)])

    def test_told(self):
        self.check(ROW.with_stock(2), [[[((0, 2), 1), ((2, 0), 2)]], [[((1, 1), 2), ((2, 0), 1)]]])
        self.check(ROW.with_stock(3), [[[((0, 2), 1), ((1, 1), 1), ((2, 0), 1)]], [[((1, 1), 3)]]])
        self.check(ROW.with_stock(0), [[[((2, 0), 3)]]])
        self.check(ROW.with_stock(6), [[[((0, 2), 3)]]])
        self.check(ROW.with_stock(7), [])
        self.check(ROW.with_stock(-1), [])
        self.check(ROW.with_stock(GREAT), [])

    def test_against_all_layouts(self):
        several = 0
        for street, plans in small_streets(131, 80, 300):
            self.check(street, sorted(plans))
            several += len(best_plans(street)) > 1
            layouts = plain_layouts(street)
            other = street.with_stock(street.stock + random.Random(len(plans)).choice([-2, -1, 1, 2]))
            behind = sorted([layout for layout in layouts if plain_draw(other, layout) == other.stock])
            self.assertGives(len(behind), count_plans, other)
            if len(behind) <= 300:
                self.check(other, behind)
        self.assertGreater(several, 10)

    def test_kinds_without_houses_and_without_house_plans(self):
        empty, none = Kind(0, 9, [(0, 1)] * 3, [FREE] * 3), Kind(1, 9, [(0, 1)] * 3, [FREE] * 3)
        one = Kind(1, 1, [(0, 1)] * 3, [FREE] * 3)
        self.check(Street(SHELF, [empty, empty], 0), [[[], []]])
        self.check(Street(SHELF, [empty, one, empty], 1), [[[], [((0, 1, 0), 1)], []]])
        self.check(Street(SHELF, [empty, one.with_many(0)], 1), [])
        self.check(Street(SHELF, [one, none], 1), [])
        self.check(Street(RANK_0, [Kind(60, 6, [(-9, 9)], [(5, [])])], 120), [[[((2,), 60)]]])

    def test_best_plans_are_joined_by_exchanges_that_save_nothing(self):
        joined = 0
        for street, plans in small_streets(132, 80, 300):
            best = best_plans(street)
            for plan, target in zip(best, best[1:]):
                for exchange in towards(street, plan, target):
                    self.assertLessEqual(touched(street, plan, exchange), street.reach)
                    self.assertEqual(saving(street, plan, exchange), 0)
                    plan = done(street, plan, exchange)
                    self.assertIn(plan, best)
                    joined += 1
        self.assertGreater(joined, 20)

    def test_four_kinds(self):
        kinds = [Kind(many, 0, [(low, high)], [(many, [(0, 1)])]) for many, low, high in ((2, 0, 2), (1, -1, 3), (3, 0, 1), (1, 0, 4))]
        for stock in range(-2, 17):
            street = Street(Table((0,), (1,)), kinds, stock)
            plans = sorted([layout for layout in plain_layouts(street) if plain_draw(street, layout) == stock])
            self.check(street, plans)

    def test_plans_are_new_lists(self):
        street = loose_street((1, 3), (1, 3), (0, 1))
        for function in (all_plans, best_plans):
            plans = function(street)
            inner = [share for plan in plans for share in plan]
            self.assertEqual(len({id(share) for share in inner}), 27)
            self.assertEqual(len({id(plan) for plan in plans}), 9)

    def test_great_numbers(self):
        kind = Kind(2, GREAT, [(GREAT - 3, GREAT), (-GREAT, GREAT)], [(GREAT, [])] * 2)
        self.assertTooMany("houses", 300, count_plans, Street(Table((1, 1), (0, 1)), [kind], 3))
        kind = Kind(2, GREAT, [(GREAT - 3, GREAT), (0, 3)], [(GREAT, []), (-GREAT, [(1, 3 * GREAT)])])
        street = Street(Table((1, 1), (1, 0)), [kind], 2 * GREAT - 3)
        rows = [(GREAT - number, number) for number in range(4)]
        self.check(street, sorted([[sorted([(rows[0], 1), (rows[3], 1)])], [sorted([(rows[1], 1), (rows[2], 1)])]]))
        self.assertEqual(layout_price(street, best_plans(street)[0]), min([layout_price(street, plan) for plan in all_plans(street)]))

    def test_many_plans_are_counted(self):
        street = Street(Table((0,), (1,)), [Kind(60, 0, [(0, 299)], [FREE])], 6)
        self.check(street, sorted([[share] for share in plain_partitions(6, 60)]))
        self.assertEqual(count_plans(Street(Table((1, 1), (0, 1)), [Kind(20, 4, [(0, 4)] * 2, [FREE] * 2)] * 2, 60)),
                         plain_count([0, 1, 2, 3, 4], 20, 20, 60))
        self.assertEqual(count_plans(Street(Table((0,), (-4,)), [Kind(60, 0, [(-4, 5)], [FREE])], -40)),
                         plain_count(range(-4, 6), 60, 0, 10))
        odd = Kind(20, 3, [(0, 3)] * 2, [FREE] * 2)
        self.assertEqual(count_plans(Street(Table((1, 1), (1, 3)), [odd], 110)), plain_count([3, 5, 7, 9], 20, 0, 110))
        self.assertEqual(count_plans(Street(Table((1, 1), (1, 3)), [odd, odd], 240)), plain_count([3, 5, 7, 9], 20, 20, 240))
        self.assertEqual(count_plans(Street(Table((1, 1), (1, 3)), [odd, odd], 241)), 0)
        self.assertEqual(count_plans(Street(Table((0, 0), (2, 2)), [Kind(5, 0, [(0, 3)] * 2, [FREE] * 2)], 9)), 0)


def plain_partitions(total, most):
    """The shares of 60 houses that draw the total, each by 0 or more."""
    shares = []

    def grow(left, part, counts):
        if left == 0:
            used = sum(counts.values())
            shares.append(sorted([((number,), many) for number, many in counts.items()] + [((0,), most - used)]))
        for number in range(1, min(part, left) + 1):
            grow(left - number, number, {**counts, number: counts.get(number, 0) + 1})
    grow(total, total, {})
    return shares


def plain_count(draws, first, second, total):
    """How many pairs of multisets of so many draws have the total."""
    def ways(many):
        counts = {(0, 0): 1}
        for draw in draws:
            longer = {}
            for (used, drawn), found in counts.items():
                for times in range(many - used + 1):
                    key = (used + times, drawn + times * draw)
                    longer[key] = longer.get(key, 0) + found
            counts = longer
        return {drawn: found for (used, drawn), found in counts.items() if used == many}
    one, two = ways(first), ways(second)
    return sum([found * two.get(total - drawn, 0) for drawn, found in one.items()])


class TestErrors(Case):
    def test_errors(self):
        for value in NO_STREETS:
            for function in WITH_STREET:
                self.assertInvalid(InvalidStreet, value, function, value)
            for function in WITH_KIND:
                self.assertInvalid(InvalidStreet, value, function, value, None)
        crowded = loose_street((1, 301), (61, 5))
        for value in NO_INTEGERS + [-1, 2, GREAT]:
            for function in WITH_KIND:
                self.assertInvalid(InvalidKind, value, function, crowded, value)

    def check_too_many(self, what, limit, street, functions):
        for function in functions:
            arguments = (street, 0) if function in WITH_KIND else (street,)
            self.assertTooMany(what, limit, function, *arguments)

    def test_limits(self):
        every = WITH_STREET + WITH_KIND
        self.check_too_many("houses", 300, loose_street((1, 301)), every)
        self.check_too_many("houses", 300, loose_street((0, 301)), every)
        self.check_too_many("houses", 300, loose_street((1, 1), (1, 301)), every)
        self.check_too_many("houses", 300, loose_street((61, 1), (1, 301)), every)
        self.check_too_many("many", 60, loose_street((61, 1)), every)
        self.check_too_many("many", 60, loose_street((60, 9), (61, 1)), every)
        self.check_too_many("many", 60, loose_street((61, 300)), every)
        self.check_too_many("plans", 300, loose_street((1, 7), (1, 43)), every[1:])
        self.assertGives(301, count_plans, loose_street((1, 7), (1, 43)))
        self.check_too_many("plans", 300, loose_street((60, 300)), every[1:])

    def test_just_at_the_limits(self):
        for street in (loose_street((1, 300)), loose_street((2, 24)), loose_street((1, 15), (1, 20))):
            self.assertGives(300, count_plans, street)
            self.assertEqual(len(all_plans(street)), 300)
            self.assertEqual(len(best_plans(street)), 300)
        self.assertGives([[[((1,), 60)]]], all_plans, loose_street((60, 1)))
        self.assertEqual(len(maybe_houses(loose_street((1, 300)), 0)), 300)
        self.assertGives([], sure_houses, loose_street((1, 300)), 0)
        self.assertGives([(1,)], sure_houses, loose_street((60, 1)), 0)


if __name__ == "__main__":
    unittest.main()
