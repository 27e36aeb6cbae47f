"""Stuck streets: no number of houses below the reach is enough [4], [56]."""

import itertools
import random
import unittest
from unittest import mock

from likestreets import stuck as module
from likestreets.errors import InvalidTable, TooMany
from likestreets.exchanges import done
from likestreets.kinds import Kind
from likestreets.plans import layout_price
from likestreets.reach import is_greatest_swap, reach
from likestreets.streets import Street
from likestreets.stuck import is_stuck, stuck_street
from likestreets.tables import Table
from helpers import (
    GREAT, LOTS_300, LOTS_301, NO_LISTS, NO_OWN, NO_TABLES, ONE_FREE, RANK_0, SHELF, TABLE_196, TABLE_204, TWO_WAYS,
    Case, plain_cost, plain_draw, plain_least, plain_plans, row_sum, some_owns,
)

TABLES = [
    (SHELF, 3), (Table((1, 1), (1, 1)), 1), (Table((2, 3), (1, 0)), 2), (ONE_FREE, 2), (NO_OWN, 3), (TWO_WAYS, 3),
    (Table((0, 0), (2, 3)), 5), (Table((0, 0), (4, -3)), 7), (Table((1, 1, 1, 1), (0, 1, 2, 3)), 5), (Table((0,), (0,)), 1),
    (Table((1, 2, 3), (1, 0, 0)), 5), (Table((3, 4, 0), (4, -4, 1)), 29), (TABLE_196, 1), (Table((0, 0, 0), (1, 2, 3)), 5),
]
FREE = [(0, []), (0, []), (0, [])]
# Two houses put one box for one of weight 0, a third one takes the box of weight 2 away.
PAIR = Kind(2, 1, [(0, 1), (0, 1), (0, 0)], [(1, []), (0, []), (0, [])])
LONE = Kind(1, 1, [(0, 1), (0, 0), (0, 1)], FREE)
TIGHT = Street(SHELF, [PAIR, LONE], 2)
FIRST = [[((1, 0, 0), 2)], [((0, 0, 1), 1)]]
LAST = [[((0, 1, 0), 2)], [((1, 0, 0), 1)]]


def some_tables(source, seed, many):
    """Tables of three columns with a reach above 0 that is not too much to be told."""
    found = []
    for own in some_owns(seed, 3, many):
        table = Table(own, [source.randint(-2, 2) for _ in range(3)])
        try:
            if reach(table) > 0:
                found.append(table)
        except TooMany:
            pass
    return found


def plain_is_stuck(table, street, plan, target):
    """Whether two plans of a street are a stuck street with it, by the words of the document."""
    if street.table != table or street.houses != reach(table) or 0 in [kind.many for kind in street.kinds()]:
        return False
    for kind, had, wanted in zip(street.kinds(), plan, target):
        if len(had) != 1 or len(wanted) != 1:
            return False
        more = tuple([b - a for a, b in zip(had[0][0], wanted[0][0])])
        tight = [(min(a, b), max(a, b)) for a, b in zip(had[0][0], wanted[0][0])]
        if more not in plain_least(table.own) or kind.bounds() != tight:
            return False
    ways = 0
    for chosen in itertools.product(*[range(kind.many + 1) for kind in street.kinds()]):
        mixed = [
            [(had[0][0], kind.many - many), (wanted[0][0], many)]
            for kind, had, wanted, many in zip(street.kinds(), plan, target, chosen)
        ]
        ways += plain_draw(street, mixed) == street.stock
    return ways == 2 and plain_cost(street, target) < plain_cost(street, plan)


class TestStuckStreet(Case):
    def test_interface(self):
        self.assertDefinedIn(module, "stuck_street", "is_stuck")
        self.assertParameters(stuck_street, "table")
        self.assertParameters(is_stuck, "table", "value")
        self.assertEqual(stuck_street(table=SHELF)[0].houses, 3)
        self.assertIs(is_stuck(value=None, table=SHELF), False)

    def check(self, table):
        found = stuck_street(table)
        self.assertIs(type(found), tuple)
        street, plan, target = found
        self.assertIs(type(street), Street)
        for layout in (plan, target):
            self.assertIs(type(layout), list)
            for share in layout:
                self.assertIs(type(share), list)
                for house, _ in share:
                    self.assertTupleOfIntegers(house)
        self.assertTrue(plain_is_stuck(table, street, plan, target))
        self.assertYes(is_stuck, table, found)
        self.assertNo(is_stuck, table, (street, target, plan))
        again = stuck_street(table)
        self.assertEqual(again, found)
        again[1][0].append(1)
        self.assertEqual(stuck_street(table), found)
        return found

    def test_told(self):
        for table, most in TABLES:
            street, plan, target = self.check(table)
            self.assertEqual([street.houses, street.reach], [most, most])
            changes = []
            for had, wanted in zip(plan, target):
                changes += [tuple([b - a for a, b in zip(had[0][0], wanted[0][0])])] * had[0][1]
            self.assertYes(is_greatest_swap, table, changes)

    def test_reach_0(self):
        for table in (RANK_0, Table((-4,), (0,)), Table((1,), (4,))):
            self.assertGives(None, stuck_street, table)

    def test_many_tables(self):
        for table in some_tables(random.Random(20), 11, 80):
            self.check(table)

    def test_nothing_but_all_at_once(self):
        for table, most in TABLES:
            if most <= 7:
                street, plan, target = stuck_street(table)
                self.assertEqual(plain_plans(street), sorted([plan, target]))
                self.assertEqual(done(street, plan, self.assertBetters(street, plan)), target)
                self.assertEqual(sum([many for _, _, _, many in self.assertBetters(street, plan)]), most)
                self.assertBest(street, target)
                self.assertLess(layout_price(street, target), layout_price(street, plan))

    def test_few_pulls_are_enough_wherever_was_looked(self):
        # No table is known each greatest lot of which has more than five unlike pulls: so it is told to the function.
        lots = [[(-9, 1), (-7, 1), (1, 1), (3, 1), (4, 2), (5, 1)], [(-6, 1), (-5, 1), (-4, 1), (1, 1), (2, 1), (3, 1), (9, 1)]]
        with mock.patch("likestreets.stuck.greatest_lots", return_value=lots):
            self.assertTooMany("kinds", 5, stuck_street, SHELF)
        with mock.patch("likestreets.stuck.greatest_lots", return_value=lots + [[(-2, 1), (1, 2)]]):
            self.assertEqual(len(stuck_street(SHELF)[0].kinds()), 2)
        table = Table((0, 0, 0, 0), (1, 2, 3, 4))
        with mock.patch("likestreets.stuck.greatest_lots", return_value=[[(-4, 1), (-2, 1), (1, 1), (2, 1), (3, 1)]]):
            self.assertEqual(len(stuck_street(table)[0].kinds()), 5)

    def test_errors(self):
        for value in NO_TABLES:
            self.assertInvalid(InvalidTable, value, stuck_street, value)
            self.assertInvalid(InvalidTable, value, is_stuck, value, None)
        for table, what, limit in ((TABLE_204, "changes", 200), (LOTS_301, "lots", 300)):
            self.assertTooMany(what, limit, stuck_street, table)
            for value in NO_LISTS + [(TIGHT, FIRST, LAST), (), (1, 2, 3)]:
                self.assertTooMany(what, limit, is_stuck, table, value)
        self.check(LOTS_300)


class TestIsStuck(Case):
    def test_yes(self):
        self.assertTrue(plain_is_stuck(SHELF, TIGHT, FIRST, LAST))
        self.assertYes(is_stuck, SHELF, (TIGHT, FIRST, LAST))
        self.assertYes(is_stuck, Table([1, 1, 1], [0, 1, 2]), (TIGHT, tuple(FIRST), [tuple(share) for share in LAST]))
        self.assertYes(is_stuck, SHELF, (TIGHT, [[([1, 0, 0], 2)], [([0, 0, 1], 1)]], LAST))
        self.assertYes(is_stuck, SHELF, (Street(SHELF, [LONE, PAIR], 2), FIRST[::-1], LAST[::-1]))
        parted = Street(SHELF, [PAIR.with_many(1), LONE, PAIR.with_many(1)], 2)
        self.assertYes(is_stuck, SHELF, (parted, [[((1, 0, 0), 1)], FIRST[1], [((1, 0, 0), 1)]],
                                         [[((0, 1, 0), 1)], LAST[1], [((0, 1, 0), 1)]]))
        # Two houses of unlike kinds that both pull 1.
        other = Street(SHELF, [PAIR.with_many(1), LONE, Kind(1, 9, [(2, 2), (3, 4), (3, 4)], FREE)], 9)
        plan = [[((1, 0, 0), 1)], [((0, 0, 1), 1)], [((2, 4, 3), 1)]]
        target = [[((0, 1, 0), 1)], [((1, 0, 0), 1)], [((2, 3, 4), 1)]]
        other = other.with_stock(plain_draw(other, plan))
        self.assertTrue(plain_is_stuck(SHELF, other, plan, target))
        self.assertYes(is_stuck, SHELF, (other, plan, target))

    def test_far_away(self):
        far = (GREAT, -GREAT, 10 ** 20)
        kinds = []
        for kind, had in zip(TIGHT.kinds(), FIRST):
            bounds = [(low + step, high + step) for (low, high), step in zip(kind.bounds(), far)]
            kinds.append(Kind(kind.many, kind.rest + 10 ** 20, bounds, kind.prices()))
        plan = [[(row_sum(share[0][0], far), share[0][1])] for share in FIRST]
        target = [[(row_sum(share[0][0], far), share[0][1])] for share in LAST]
        street = Street(SHELF, kinds, 0)
        street = street.with_stock(plain_draw(street, plan))
        self.assertYes(is_stuck, SHELF, (street, plan, target))
        self.assertNo(is_stuck, SHELF, (street, target, plan))

    def test_one_thing_otherwise(self):
        dear = Kind(2, 1, PAIR.bounds(), [(1, []), (1, []), (0, [])])
        wide = Kind(2, 1, [(0, 1), (0, 1), (0, 1)], PAIR.prices())
        low = Kind(2, 1, [(-1, 1), (0, 1), (0, 0)], PAIR.prices())
        none = Kind(0, 1, [(0, 1), (0, 1), (0, 0)], FREE)
        stay = Kind(1, 1, [(1, 1), (0, 0), (0, 0)], FREE)
        for street, plan, target in (
                (TIGHT, LAST, FIRST), (TIGHT, FIRST, FIRST), (TIGHT, LAST, LAST), (TIGHT.with_stock(3), FIRST, LAST),
                (TIGHT.with_kind(0, dear), FIRST, LAST), (TIGHT.with_kind(0, wide), FIRST, LAST),
                (TIGHT.with_kind(0, low), FIRST, LAST), (TIGHT.with_kind(0, PAIR.with_many(3)), FIRST, LAST),
                (Street(SHELF, [PAIR, LONE, none], 2), FIRST + [[]], LAST + [[]]),
                (Street(SHELF, [PAIR, LONE, stay], 2), FIRST + [[((1, 0, 0), 1)]], LAST + [[((1, 0, 0), 1)]]),
                (Street(Table((1, 1, 1), (0, 1, -2)), [PAIR, LONE], -2), FIRST, LAST),
                (Street(SHELF, [PAIR.with_many(4), LONE.with_many(2)], 4), [[((1, 0, 0), 4)], [((0, 0, 1), 2)]],
                 [[((0, 1, 0), 4)], [((1, 0, 0), 2)]]),
                (TIGHT, FIRST[:1], LAST), (TIGHT, FIRST, LAST + [[]]), (TIGHT, FIRST, [LAST[0], [((0, 0, 1), 1)]]),
        ):
            self.assertNo(is_stuck, SHELF, (street, plan, target))
        self.assertNo(is_stuck, Table((1, 1, 1), (0, 1, 1)), (TIGHT, FIRST, LAST))
        self.assertNo(is_stuck, RANK_0, (TIGHT, FIRST, LAST))
        self.assertNo(is_stuck, RANK_0, (Street(RANK_0, [Kind(0, 0, [(0, 0)], [(0, [])])], 0), [[]], [[]]))
        self.assertNo(is_stuck, RANK_0, (Street(RANK_0, [Kind(1, 0, [(0, 0)], [(0, [])])], 0), [[((0,), 1)]], [[((0,), 1)]]))

    def test_fewer_houses_than_the_reach(self):
        # One against one: nothing else can be done there, too, but they are two houses, not three.
        back = Kind(1, 1, [(0, 1), (0, 1), (0, 0)], [(0, []), (1, []), (0, [])])
        street = Street(SHELF, [PAIR.with_many(1), back], 1)
        plan, target = [[((1, 0, 0), 1)], [((0, 1, 0), 1)]], [[((0, 1, 0), 1)], [((1, 0, 0), 1)]]
        self.assertEqual(plain_plans(street), sorted([plan, target]))
        self.assertLess(plain_cost(street, target), plain_cost(street, plan))
        self.assertNo(is_stuck, SHELF, (street, plan, target))
        table = Table((0, 0, 0), (1, 1, 0))
        street = Street(table, [Kind(1, 0, [(0, 0), (0, 0), (0, 1)], [(0, []), (0, []), (-1, [])])], 0)
        self.assertNo(is_stuck, table, (street, [[((0, 0, 0), 1)]], [[((0, 0, 1), 1)]]))

    def test_one_house_has_the_other_house_plan_already(self):
        bounds = [(0, 1), (0, 1), (0, 0)]
        falling, rising = [(1, []), (0, []), (0, [])], [(0, []), (1, []), (0, [])]
        mixed = [[((1, 0, 0), 1), ((0, 1, 0), 1)], [((0, 1, 0), 1)]]
        whole = [[((0, 1, 0), 2)], [((1, 0, 0), 1)]]
        street = Street(SHELF, [Kind(2, 1, bounds, falling), Kind(1, 1, bounds, rising)], 2)
        self.assertLess(plain_cost(street, whole), plain_cost(street, mixed))
        self.assertNo(is_stuck, SHELF, (street, mixed, whole))
        self.assertNo(is_stuck, SHELF, (street, [mixed[0][::-1], mixed[1]], whole))
        street = Street(SHELF, [Kind(2, 1, bounds, rising), Kind(1, 1, bounds, falling)], 2)
        self.assertLess(plain_cost(street, mixed), plain_cost(street, whole))
        self.assertNo(is_stuck, SHELF, (street, whole, mixed))
        self.assertNo(is_stuck, SHELF, (street, whole, [mixed[0][::-1], mixed[1]]))

    def test_two_house_plans_in_a_kind(self):
        kind = Kind(3, 1, [(0, 1)] * 3, [(3, []), (0, []), (3, [])])
        street = Street(SHELF, [kind], 3)
        self.assertNo(is_stuck, SHELF, (street, [[((1, 0, 0), 1), ((0, 0, 1), 1), ((0, 1, 0), 1)]], [[((0, 1, 0), 3)]]))
        self.assertNo(is_stuck, SHELF, (TIGHT, [[((1, 0, 0), 1), ((0, 1, 0), 1)], FIRST[1]], LAST))

    def test_no_least_change(self):
        table = Table((1, 1), (1, 1))
        kind = Kind(1, 2, [(0, 2), (0, 2)], [(1, []), (0, [])])
        self.assertNo(is_stuck, table, (Street(table, [kind], 2), [[((2, 0), 1)]], [[((0, 2), 1)]]))
        one = Kind(1, 1, [(0, 1), (0, 1)], [(1, []), (0, [])])
        self.assertYes(is_stuck, table, (Street(table, [one], 1), [[((1, 0), 1)]], [[((0, 1), 1)]]))

    def test_some_houses_could_change_alone(self):
        # The reach is 5; two against two and one alone are as many, but no least lot.
        table = Table((0, 0, 0), (1, 2, 3))
        kinds = [Kind(2, 0, [(0, 1), (0, 0), (0, 0)], [(-1, []), (0, []), (0, [])]),
                 Kind(1, 0, [(0, 0), (-1, 0), (0, 0)], FREE),
                 Kind(1, 0, [(0, 0), (0, 1), (0, 0)], FREE),
                 Kind(1, 0, [(0, 0), (-1, 0), (0, 0)], FREE)]
        nought = (0, 0, 0)
        plan = [[(nought, 2)], [(nought, 1)], [(nought, 1)], [(nought, 1)]]
        target = [[((1, 0, 0), 2)], [((0, -1, 0), 1)], [((0, 1, 0), 1)], [((0, -1, 0), 1)]]
        self.assertEqual(reach(table), 5)
        self.assertEqual(plain_draw(Street(table, kinds, 0), target), 0)
        self.assertNo(is_stuck, table, (Street(table, kinds, 0), plan, target))

    def test_any_value(self):
        for value in NO_LISTS + [(), [], (TIGHT,), (TIGHT, FIRST), (TIGHT, FIRST, LAST, LAST), [TIGHT, FIRST, LAST],
                                 (FIRST, TIGHT, LAST), (SHELF, FIRST, LAST), ((TIGHT, FIRST, LAST),), "abc", b"abc", {1, 2, 3}]:
            self.assertNo(is_stuck, SHELF, value)
            self.assertNo(is_stuck, RANK_0, value)
        for value in NO_LISTS + [[], (), [[]], [None, None], [[None], [None]], [[((1, 0, 0), True)], [((0, 0, 1), 1)]],
                                 [[((True, 0, 0), 2)], FIRST[1]], [[((1, False, 0), 2)], FIRST[1]]]:
            self.assertNo(is_stuck, SHELF, (TIGHT, value, LAST))
            self.assertNo(is_stuck, SHELF, (TIGHT, FIRST, value))
            self.assertNo(is_stuck, SHELF, (value, FIRST, LAST))

    def test_by_the_words(self):
        source = random.Random(21)
        told = {True: 0, False: 0}
        for table in some_tables(source, 12, 80):
            street, plan, target = stuck_street(table)
            for _ in range(8):
                kinds, swapped = street.kinds(), source.random() < 0.2
                at = source.randrange(len(kinds))
                kind = kinds[at]
                bounds = kind.bounds()
                place = source.randrange(3)
                bounds[place] = (bounds[place][0] - source.choice([0, 0, 0, 1]), bounds[place][1] + source.choice([0, 0, 0, 1]))
                prices = [(source.randint(-1, 1), []) for _ in range(3)]
                kinds[at] = Kind(kind.many, kind.rest, bounds, prices)
                other = Street(table, kinds, street.stock)
                one, two = (target, plan) if swapped else (plan, target)
                wanted = plain_is_stuck(table, other, one, two)
                told[wanted] += 1
                self.assertEqual(is_stuck(table, (other, one, two)), wanted)
        self.assertGreater(min(told.values()), 50)


if __name__ == "__main__":
    unittest.main()
