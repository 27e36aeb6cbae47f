"""Next plans: a best plan for a stock that is greater by 1, few houses apart [4], [81], [82]."""

import random
import unittest

from likestreets import nexts as module
from likestreets.better import is_best
from likestreets.errors import InvalidPlan, InvalidStreet, NotBest, TooMany
from likestreets.kinds import Kind
from likestreets.led import best_plan
from likestreets.nexts import is_next, next_plan
from likestreets.plans import is_layout, is_plan
from likestreets.reach import reach
from likestreets.streets import Street
from likestreets.tables import Table, widened
from likestreets.worths import worth_of
from helpers import (
    APART, NO_LISTS, NO_PLANS, NO_STREETS, ONE_FREE, RANK_0, SHELF, SHOPS, Case, plain_cost, plain_draw, plain_layouts,
    small_streets, some_street,
)
from test_bank import FIVE_COLUMNS, LOTS_201, noughts, still
from test_led import giant_street

FREE = (0, [])
SHOP = Kind(3, 2, [(0, 2), (0, 2)], [(0, []), (0, [(0, 1), (1, 1)])])
ROW = Street(Table((1, 1), (0, 1)), [SHOP], 1)
FIRST = [[((1, 1), 1), ((2, 0), 2)]]
SECOND = [[((1, 1), 2), ((2, 0), 1)]]
# With its own reach it has few sums, with the reach of the widened table too many.
NEXT_SUMS = Table((4, -1, 1), (-2, -4, 4))


def plain_apart(plan, other):
    """By the words: for each kind its houses less, over all house plans, the lesser one of both numbers."""
    total = 0
    for share, wanted in zip(plan, other):
        counts = {tuple(house): many for house, many in wanted}
        total += sum([many for _, many in share]) - sum([min(many, counts.get(tuple(house), 0)) for house, many in share])
    return total


class NextCase(Case):
    def check(self, street, plan, price):
        """There is a next plan exactly if there is a price for the greater stock; returns how many houses change."""
        found = next_plan(street, plan)
        if price is None:
            self.assertIsNone(found)
            return 0
        behind = street.with_stock(street.stock + 1)
        self.assertTrue(is_plan(behind, found) and is_best(behind, found))
        self.assertEqual(plain_cost(street, found), price)
        changed = plain_apart(plan, found)
        self.assertLessEqual(changed, reach(widened(street.table)) - 1)
        self.assertYes(is_next, street, plan, found)
        self.assertGives([sorted([(tuple(house), many) for house, many in share]) for share in found], next_plan, street, plan)
        return changed


class TestNextPlan(NextCase):
    def test_interface(self):
        self.assertDefinedIn(module, "next_plan", "is_next")
        self.assertParameters(next_plan, "street", "plan")
        self.assertParameters(is_next, "street", "plan", "value")
        self.assertEqual(next_plan(plan=FIRST, street=ROW), SECOND)
        self.assertIs(is_next(value=SECOND, plan=FIRST, street=ROW), True)
        self.assertGives(SECOND, next_plan, ROW, [[((2, 0), 2), ((1, 1), 1)]])
        self.assertGives(SECOND, next_plan, ROW, ((([2, 0], 2), ([1, 1], 1)),))

    def test_one_behind_another(self):
        plan, prices = [[((2, 0), 3)]], []
        for stock in range(6):
            plan = next_plan(ROW.with_stock(stock), plan)
            prices.append(plain_cost(ROW, plan))
        self.assertEqual(prices, [1, 2, 3, 5, 7, 9])
        self.assertGives(None, next_plan, ROW.with_stock(6), plan)

    def test_against_all_layouts(self):
        seen = {"none": 0, "some": 0, "many": 0}
        for street, plans in small_streets(111, 150):
            least = {}
            for layout in plain_layouts(street):
                price = plain_cost(street, layout)
                least[plain_draw(street, layout)] = min(price, least.get(plain_draw(street, layout), price))
            for plan in [plan for plan in plans if plain_cost(street, plan) == least[street.stock]][:2]:
                try:
                    changed = self.check(street, plan, least.get(street.stock + 1))
                except TooMany as error:
                    self.assertIn(error.what, ("sums", "lots"))
                    break
                seen["none" if changed == 0 else "some" if changed == 1 else "many"] += 1
        self.assertGreater(min(seen.values()), 5)

    def test_the_widened_table_has_the_reach_two_or_more(self):
        for table, wide in ((Table((1, 1), (0, 1)), 2), (SHELF, 3), (Table((1, 2, 3), (1, 0, 0)), 5), (Table((0, 0), (3, 1)), 4)):
            self.assertEqual(reach(widened(table)), wide)
            source, found = random.Random(112), 0
            for _ in range(15):
                street, plan = some_street(source, table, [source.randint(1, 9), source.randint(0, 5)], 3)
                changed = self.check(street, best_plan(street, plan), worth_of(street.with_stock(street.stock + 1)))
                found += changed > 0
                if wide == 2:
                    self.assertLessEqual(changed, 1)
            self.assertGreater(found, 2)

    def test_more_than_one_house_must_change(self):
        # A piece more comes only of 4 more here and 3 less there.
        kinds = [Kind(3, 0, [(0, 1), (0, 0)], [FREE] * 2), Kind(2, 0, [(0, 0), (-1, 0)], [FREE] * 2)]
        street = Street(Table((0, 0), (4, 3)), kinds, 0)
        plan = [[((0, 0), 3)], [((0, 0), 2)]]
        self.assertEqual(self.check(street, plan, 0), 2)
        self.assertGives([[((0, 0), 2), ((1, 0), 1)], [((0, -1), 1), ((0, 0), 1)]], next_plan, street, plan)

    def test_many_houses(self):
        source = random.Random(113)
        found = 0
        for _ in range(40):
            street, plan = giant_street(source, 10 ** 20, source.choice([3, 10 ** 18]))
            try:
                best, price = best_plan(street, plan), worth_of(street.with_stock(street.stock + 1))
                found += self.check(street, best, price) > 0
            except TooMany as error:
                self.assertIn(error.what, ("sums", "lots"))
        self.assertGreater(found, 4)

    def test_no_houses_and_no_changes(self):
        nobody = Street(SHELF, [Kind(0, 9, [(0, 1)] * 3, [FREE] * 3)] * 5, 0)
        self.assertGives(None, next_plan, nobody, [[]] * 5)
        self.assertNo(is_next, nobody, [[]] * 5, [[]] * 5)
        alone = Street(RANK_0, [Kind(10 ** 20, 6, [(-9, 9)], [(5, [])])], 2 * 10 ** 20)
        self.assertGives(None, next_plan, alone, [[((2,), 10 ** 20)]])
        even = Street(ONE_FREE, [Kind(10 ** 20, 0, [(-9, 9)], [FREE])], 0)
        self.assertGives(None, next_plan, even, [[((0,), 10 ** 20)]])
        full = Street(Table((0,), (1,)), [Kind(2, 0, [(0, 1)], [FREE])], 2)
        self.assertGives(None, next_plan, full, [[((1,), 2)]])

    def test_prices_that_fall_and_rise(self):
        for slope in (-10 ** 29, -3, 0, 7, 10 ** 29):
            street = Street(Table((0,), (1,)), [Kind(3, 0, [(-2, 2)], [(slope, [(0, 10 ** 29)])])], 0)
            self.check(street, [[((0,), 3)]], slope + 10 ** 29)
            self.check(street.with_stock(-6), [[((-2,), 3)]], -5 * slope)


class TestIsNext(NextCase):
    def test_yes_and_no(self):
        for value in (SECOND, tuple(SECOND), [[([2, 0], 1), ((1, 1), 2)]], ((((2, 0), 1), ([1, 1], 2)),)):
            self.assertYes(is_next, ROW, FIRST, value)
        for value in ([[((0, 2), 1), ((2, 0), 2)]], FIRST, [[((1, 1), 3)]], SECOND + [[]], [[((1, 1), 2)]], [[((1, 1), 2), ((2, 0), 2)]],
                      [[((1, True), 2), ((2, 0), 1)]], [[((1, 1), 2), ((2, 0), True)]], [[[(1, 1), 2], ((2, 0), 1)]], [SECOND], SECOND[0]):
            self.assertNo(is_next, ROW, FIRST, value)

    def test_few_houses(self):
        # All these are best plans for the stock 3; but only so many houses may change.
        kinds = [Kind(9, 1, [(0, 1)] * 2, [FREE] * 2), Kind(9, 1, [(0, 1)] * 2, [FREE] * 2)]
        street = Street(Table((1, 1), (0, 1)), kinds, 2)
        plan = [[((0, 1), 2), ((1, 0), 7)], [((1, 0), 9)]]
        self.assertEqual(reach(widened(street.table)), 2)
        for first, right in ((3, True), (2, True), (1, False), (0, False)):
            value = [[((0, 1), first), ((1, 0), 9 - first)], [((0, 1), 3 - first), ((1, 0), 6 + first)]]
            value = [[(row, many) for row, many in share if many] for share in value]
            self.assertTrue(is_plan(street.with_stock(3), value) and is_best(street.with_stock(3), value))
            self.assertEqual(plain_apart(plan, value) <= 1, right)
            self.assertIs(is_next(street, plan, value), right)

    def test_against_the_words(self):
        seen = {True: 0, False: 0}
        for street, plans in small_streets(114, 80):
            layouts = plain_layouts(street)
            behind = [layout for layout in layouts if plain_draw(street, layout) == street.stock + 1]
            least = min([plain_cost(street, plan) for plan in plans])
            plan = [plan for plan in plans if plain_cost(street, plan) == least][-1]
            try:
                few = reach(widened(street.table)) - 1
                for value in behind[:6] + layouts[:2]:
                    wanted = value in behind and plain_apart(plan, value) <= few
                    wanted = wanted and plain_cost(street, value) == min([plain_cost(street, layout) for layout in behind])
                    self.assertIs(is_next(street, plan, value), wanted)
                    seen[wanted] += 1
            except TooMany as error:
                self.assertIn(error.what, ("sums", "lots"))
        self.assertGreater(min(seen.values()), 30)

    def test_any_value(self):
        for value in NO_LISTS + NO_PLANS:
            self.assertNo(is_next, ROW, FIRST, value)
            self.assertNo(is_next, ROW, FIRST, [value])


class TestErrors(Case):
    def test_errors(self):
        for value in NO_STREETS:
            self.assertInvalid(InvalidStreet, value, next_plan, value, None)
            self.assertInvalid(InvalidStreet, value, is_next, value, None, None)
        for value in NO_PLANS:
            self.assertInvalid(InvalidPlan, value, next_plan, SHOPS, value)
            self.assertInvalid(InvalidPlan, value, is_next, SHOPS, value, None)
        self.assertInvalid(InvalidPlan, SECOND, next_plan, ROW, SECOND)

    def test_not_best(self):
        self.assertFails(NotBest, {}, next_plan, SHOPS, APART)
        for value in (None, [], APART, SECOND):
            self.assertFails(NotBest, {}, is_next, SHOPS, APART, value)
        self.assertFails(NotBest, {}, next_plan, ROW.with_stock(2), [[((0, 2), 1), ((2, 0), 2)]])
        for street, plans in small_streets(115, 20):
            prices = [plain_cost(street, plan) for plan in plans]
            dear = plans[prices.index(max(prices))]
            try:
                reach(widened(street.table))
                if max(prices) > min(prices):
                    self.assertFails(NotBest, {}, next_plan, street, dear)
            except TooMany:
                continue
            except AssertionError:
                self.assertRaises(TooMany, next_plan, street, dear)

    def check_too_many(self, what, limit, street, plan):
        self.assertTrue(is_layout(street, plan))
        self.assertTooMany(what, limit, next_plan, street, plan)
        self.assertInvalid(InvalidPlan, [], next_plan, street, [])
        self.assertInvalid(InvalidPlan, [], is_next, street, [], None)
        for value in (None, [], plan):
            self.assertTooMany(what, limit, is_next, street, plan, value)

    def test_limits(self):
        self.check_too_many("columns", 6, still(FIVE_COLUMNS, 2), noughts(still(FIVE_COLUMNS, 2)))
        six = still(Table((1, 1, 1, 1, 1, 1), (0, 1, 0, 1, 0, 0)), 1)
        self.check_too_many("columns", 6, six, noughts(six))
        self.check_too_many("lots", 300, still(LOTS_201, 1), noughts(still(LOTS_201, 1)))
        self.check_too_many("sums", 2000, still(NEXT_SUMS, 1), noughts(still(NEXT_SUMS, 1)))
        self.assertEqual(next_plan(still(SHELF, 5), noughts(still(SHELF, 5))), None)

    def test_limits_are_ahead_of_not_best(self):
        for table, change, what, limit in ((FIVE_COLUMNS, (1, 0, -1, 0, 0), "columns", 6), (LOTS_201, (1, -1, 0), "lots", 300),
                                           (NEXT_SUMS, (0, 1, 1), "sums", 2000)):
            kind = Kind(2, 0, [(min(0, step), max(0, step)) for step in change], [(-step, []) for step in change])
            row = tuple([0 for _ in change])
            street = Street(table, [kind, Kind(2, 0, [(-high, -low) for low, high in kind.bounds()], kind.prices())], 0)
            street = street.with_kind(1, Kind(2, 0, street.kinds()[1].bounds(), [FREE] * len(change)))
            plan = [[(row, 2)], [(row, 2)]]
            self.assertIs(is_best(street, plan), False)
            self.check_too_many(what, limit, street, plan)


if __name__ == "__main__":
    unittest.main()
