"""The bank: layouts, shortages, plans, and papers that there is none [4], [73] to [77]."""

import random
import unittest
from unittest import mock

from likestreets import bank as module
from likestreets.bank import bank_plan, banked, is_short_paper, shortage, some_layout, some_plan
from likestreets.better import is_best
from likestreets.errors import InvalidLayout, InvalidStreet, TooMany
from likestreets.kinds import Kind
from likestreets.led import best_plan, best_price
from likestreets.least import least_changes
from likestreets.plans import is_layout, is_plan, layout_price
from likestreets.reach import reach
from likestreets.streets import Street
from likestreets.tables import Table, widened
from helpers import (
    GREAT, NO_LISTS, NO_STREETS, ONE_FREE, RANK_0, SHELF, Case, plain_bank_plan, plain_banked, plain_cost,
    plain_draw, plain_layouts, plain_plans, plain_least, small_streets, some_owns,
)

FREE = (0, [])
KIND = Kind(3, 2, [(0, 2), (0, 2)], [(0, []), (1, [])])
STREET = Street(Table((1, 1), (0, 1)), [KIND], 4)
SHORT = STREET.with_stock(9)
PAPER = [[((0, 2, 0, 0), 3)], [((0, 0, 3, 0), 1)]]
# 201 least lots, and more than 300 when it is widened.
LOTS_201 = Table((-4, -4, -3), (-1, -3, 0))
WIDE_SUMS = Table((4, 1), (-2, 2))
FIVE_COLUMNS = Table((1, 1, 1, 1, 1), (0, 1, 0, 1, 0))
WITH_STREET = (banked, shortage, some_plan)


def still(table, kinds, many=1, stock=0):
    """A street of so many kinds whose houses have nothing but nought."""
    columns = table.columns
    return Street(table, [Kind(many, 0, [(0, 0)] * columns, [FREE] * columns) for _ in range(kinds)], stock)


def noughts(street):
    return [[((0,) * street.table.columns, kind.many)] if kind.many else [] for kind in street.kinds()]


class BankCase(Case):
    def check_layout(self, street, there):
        found = some_layout(street)
        if not there:
            self.assertIsNone(found)
            return
        self.assertYes(is_layout, street, found)
        self.assertGives([sorted([(tuple(house), many) for house, many in share]) for share in found], some_layout, street)

    def check_plan(self, street, there):
        found = some_plan(street)
        self.assertIs(found is not None, there)
        if there:
            self.assertYes(is_plan, street, found)
            self.assertGives([sorted([(tuple(house), many) for house, many in share]) for share in found], some_plan, street)


class TestBanked(BankCase):
    def test_interface(self):
        self.assertDefinedIn(module, "banked", "some_layout", "bank_plan", "shortage", "some_plan", "is_short_paper")
        for function in WITH_STREET + (some_layout,):
            self.assertParameters(function, "street")
        self.assertParameters(bank_plan, "street", "layout")
        self.assertParameters(is_short_paper, "street", "value")
        self.assertEqual(shortage(street=SHORT), 3)
        self.assertEqual(bank_plan(layout=[[((2, 0), 3)]], street=STREET), [[((2, 0, 0, 0), 3)], [((0, 0, 4, 0), 1)]])
        self.assertIs(is_short_paper(value=PAPER, street=SHORT), True)

    def test_told(self):
        found = banked(STREET)
        self.assertEqual(found.table, Table((1, 1, 0, 0), (0, 1, 1, -1)))
        self.assertEqual(found.stock, 4)
        old, bank = found.kinds()
        self.assertEqual(old, Kind(3, 2, [(0, 2), (0, 2), (0, 0), (0, 0)], [FREE] * 4))
        self.assertEqual(bank, Kind(1, 0, [(0, 0), (0, 0), (0, 10), (0, 10)], [FREE, FREE, (1, []), (1, [])]))
        self.assertGives([(0, 0), (0, 0), (0, 10), (0, 10)], found.kinds()[1].bounds)
        self.assertGives(0, shortage, STREET)
        self.assertGives(3, shortage, SHORT)
        self.assertGives(None, some_plan, SHORT)

    def test_by_the_words(self):
        for street, plans in small_streets(101, 60):
            try:
                found = banked(street)
            except TooMany as error:
                self.assertEqual((error.what, error.limit), ("lots", 300))
                continue
            self.assertEqual(found, plain_banked(street))
            negative = street.with_stock(-street.stock - 3)
            self.assertEqual(banked(negative), plain_banked(negative))
            for plan in plans[:3]:
                self.assertYes(is_plan, banked(negative), plain_bank_plan(negative, plan))

    def test_no_houses_and_four_kinds(self):
        street = Street(SHELF, [Kind(many, 1, [(-1, 1)] * 3, [(5, [(0, 1)])] * 3) for many in (0, 10 ** 20, 0, 2)], -7)
        found = banked(street)
        self.assertEqual(found, plain_banked(street))
        self.assertEqual(len(found.kinds()), 5)
        self.assertEqual(found.kinds()[4].bounds()[3], (0, 7 + 3 * (10 ** 20 + 2)))
        self.assertTooMany("kinds", 5, banked, found)

    def test_reach_and_least_changes(self):
        for own in some_owns(102, 2, 12) + some_owns(103, 3, 6) + [(3,), (0,), (0, 0, 1, 1)]:
            wide = widened(Table(own, [1] * len(own)))
            news = [(0,) * len(own) + pair for pair in ((1, 0), (-1, 0), (0, 1), (0, -1))]
            self.assertEqual(least_changes(wide), sorted([row + (0, 0) for row in plain_least(own)] + news))
            try:
                self.assertGreaterEqual(reach(wide), reach(Table(own, [1] * len(own))))
            except TooMany as error:
                self.assertEqual(error.what, "lots")


class TestLayouts(BankCase):
    def test_there_is_one_if_each_kind_with_houses_has_a_house_plan(self):
        can, cannot = Kind(2, 1, [(0, 1)] * 3, [FREE] * 3), Kind(2, 4, [(0, 1)] * 3, [FREE] * 3)
        for kinds in ([can], [can, can], [cannot.with_many(0)], [cannot.with_many(0), can, can.with_many(0)],
                      [can.with_many(10 ** 20)] * 5):
            self.check_layout(Street(SHELF, kinds, 77), True)
        for kinds in ([cannot], [can, cannot], [cannot, can.with_many(0)], [can, cannot.with_many(1), can, can, can]):
            street = Street(SHELF, kinds, 0)
            self.check_layout(street, False)
            self.assertGives(None, some_layout, street)
            if len(kinds) < 5:
                self.assertGives(None, shortage, street)
                self.assertGives(None, some_plan, street)
                for value in ([], [[]], noughts(street) + [[((0,) * 5, 1)]]):
                    self.assertNo(is_short_paper, street, value)
        self.assertGives([[], [], []], some_layout, Street(SHELF, [cannot.with_many(0)] * 3, 5))

    def test_against_all_layouts(self):
        for street, plans in small_streets(104, 60):
            self.check_layout(street, True)
            self.assertIn(some_layout(street), plain_layouts(street))

    def test_five_columns_and_five_kinds_and_great_bounds(self):
        self.check_layout(still(FIVE_COLUMNS, 5), True)
        street = Street(Table((4, -3, 2, 0, 1, 0), (0, 0, 1, 1, 0, 1)), [Kind(GREAT, 5, [(-GREAT, GREAT)] * 6, [FREE] * 6)], 0)
        self.check_layout(street, True)


class TestBankPlan(BankCase):
    def test_left_over_and_lent(self):
        layout = [[((1, 1), 2), ((2, 0), 1)]]
        for stock, house in ((5, (0, 0, 3, 0)), (2, (0, 0, 0, 0)), (-1, (0, 0, 0, 3))):
            street = STREET.with_stock(stock)
            wanted = [[((1, 1, 0, 0), 2), ((2, 0, 0, 0), 1)], [(house, 1)]]
            self.assertGives(wanted, bank_plan, street, layout)
            self.assertGives(wanted, bank_plan, street, ((([2, 0], 1), ([1, 1], 2)),))
            self.assertYes(is_plan, banked(street), wanted)
            self.assertEqual(layout_price(banked(street), wanted), abs(stock - 2))

    def test_against_the_words(self):
        source = random.Random(105)
        for street, plans in small_streets(106, 60):
            layouts = plain_layouts(street)
            layout = source.choice(layouts)
            other = street.with_stock(street.stock + source.choice([-9, -1, 0, 1, 9]))
            try:
                self.assertGives(plain_bank_plan(other, layout), bank_plan, other, layout)
            except TooMany as error:
                self.assertEqual(error.what, "lots")
                continue
            bank = banked(other)
            self.assertYes(is_plan, bank, bank_plan(other, layout))
            self.assertEqual(layout_price(bank, bank_plan(other, layout)), abs(other.stock - plain_draw(other, layout)))
            # The bank may keep and lend more at once, but that costs more.
            house = bank_plan(other, layout)[-1][0][0]
            more = bank_plan(other, layout)[:-1] + [[(house[:-2] + (house[-2] + 1, house[-1] + 1), 1)]]
            if is_plan(bank, more):
                self.assertEqual(layout_price(bank, more), abs(other.stock - plain_draw(other, layout)) + 2)


class TestShortage(BankCase):
    def test_against_all_layouts(self):
        plenty = 0
        for street, plans in small_streets(107, 35):
            draws = sorted({plain_draw(street, layout) for layout in plain_layouts(street)})
            stocks = {draws[0] - 5, draws[0] - 1, draws[0], draws[-1], draws[-1] + 1, draws[-1] + 7, -10 ** 20, GREAT, 0}
            gaps = [number for number in range(draws[0], draws[-1]) if number not in draws]
            for stock in sorted(stocks | set(gaps[:3]) | set(draws[:2])):
                other = street.with_stock(stock)
                try:
                    wanted = min([abs(stock - number) for number in draws])
                    self.assertGives(wanted, shortage, other)
                    self.check_plan(other, stock in draws)
                    plenty += 1
                except TooMany as error:
                    self.assertIn(error.what, ("sums", "lots"))
        self.assertGreater(plenty, 150)

    def test_neighbours_differ_by_one_at_most(self):
        kinds = [Kind(4, 2, [(0, 2)] * 2, [FREE] * 2), Kind(3, 0, [(-1, 1)] * 2, [FREE] * 2)]
        street = Street(Table((1, 1), (0, 3)), kinds, 0)
        found = [shortage(street.with_stock(stock)) for stock in range(-20, 40)]
        self.assertTrue(all([abs(one - two) <= 1 for one, two in zip(found, found[1:])]))
        self.assertEqual(found[:13], [11, 10, 9, 8, 7, 6, 5, 4, 3, 2, 1, 0, 1])
        self.assertEqual(found[11:53], [0, 1, 1] * 14)
        self.assertEqual(found[53:], list(range(7)))

    def test_stock_nought(self):
        kinds = [Kind(10 ** 20, 0, [(-3, 4)] * 3, [FREE] * 3), Kind(5, 0, [(0, 0)] * 3, [(7, [])] * 3)]
        street = Street(SHELF, kinds, 0)
        self.assertGives(0, shortage, street)
        self.check_plan(street, True)
        nobody = Street(SHELF, [Kind(0, 9, [(0, 1)] * 3, [FREE] * 3)] * 4, 0)
        self.assertGives(0, shortage, nobody)
        self.assertGives([[], [], [], []], some_plan, nobody)
        self.assertGives(12, shortage, nobody.with_stock(-12))
        self.assertGives(None, some_plan, nobody.with_stock(-12))

    def test_kinds_without_houses_change_nothing(self):
        for stock in (0, 3, 6, 7, 20, -5):
            other = STREET.with_stock(stock)
            more = Street(STREET.table, [KIND, Kind(0, 99, [(0, 1)] * 2, [FREE] * 2), Kind(0, 1, [(0, 1)] * 2, [FREE] * 2)], stock)
            self.assertEqual(shortage(more), shortage(other))
            self.check_plan(more, shortage(other) == 0)

    def test_edges_and_far_beyond(self):
        many = 10 ** 20
        street = STREET.with_kind(0, KIND.with_many(many))
        for stock, wanted in ((0, 0), (2 * many, 0), (2 * many + 1, 1), (-1, 1), (GREAT, GREAT - 2 * many), (-GREAT, GREAT), (many, 0)):
            self.assertGives(wanted, shortage, street.with_stock(stock))
            self.check_plan(street.with_stock(stock), wanted == 0)
        double = Street(Table((1, 1), (0, 2)), [KIND.with_many(many)], 2 * many + 1)
        self.assertGives(1, shortage, double)
        self.check_plan(double, False)
        self.check_plan(double.with_stock(2 * many), True)

    def test_no_changes(self):
        street = Street(RANK_0, [Kind(4, 6, [(-9, 9)], [FREE])], 8)
        self.check_plan(street, True)
        self.assertGives(3, shortage, street.with_stock(5))
        free = Street(ONE_FREE, [Kind(4, 0, [(-1, 2)], [FREE])], 5)
        self.assertGives(1, shortage, free)
        self.check_plan(free.with_stock(6), True)

    def test_banked_streets_are_streets_like_others(self):
        for street, plans in small_streets(108, 25):
            try:
                bank = banked(street)
                start = bank_plan(street, plans[0])
                self.assertGives(0, best_price, bank, start)
                self.assertYes(is_best, bank, start)
                self.assertYes(is_plan, street, [[(row[:-2], many) for row, many in share] for share in best_plan(bank, start)[:-1]])
            except TooMany as error:
                self.assertIn(error.what, ("sums", "lots"))


class TestShortPapers(BankCase):
    def test_yes_and_no(self):
        for value in (PAPER, tuple(PAPER), [[([0, 2, 0, 0], 3)], [((0, 0, 3, 0), 1)]], ((((0, 2, 0, 0), 3),), (((0, 0, 3, 0), 1),))):
            self.assertYes(is_short_paper, SHORT, value)
        for value in ([PAPER[0]], PAPER + [[]], [PAPER[0], []], [[((0, 2, 0, 0), 2), ((1, 1, 0, 0), 1)], [((0, 0, 4, 0), 1)]],
                      [PAPER[0], [((0, 0, 4, 1), 1)]], [PAPER[0], [((0, 0, 2, 0), 1)]], [[((0, 2), 3)]], [[((0, 2, 0, 0), 3)]],
                      [PAPER[0], [[(0, 0, 3, 0), 1]]], [PAPER[0], [((0, 0, 3, 0), True)]], [PAPER[0], [((0, False, 3, 0), 1)]], None):
            self.assertNo(is_short_paper, SHORT, value)
        self.assertNo(is_short_paper, STREET, [[((2, 0, 0, 0), 3)], [((0, 0, 4, 0), 1)]])
        self.assertNo(is_short_paper, STREET, [[((0, 2, 0, 0), 1), ((1, 1, 0, 0), 2)], [((0, 0, 0, 0), 1)]])
        self.assertNo(is_short_paper, STREET, PAPER)
        lent = [[((2, 0, 0, 0), 3)], [((0, 0, 0, 4), 1)]]
        self.assertYes(is_short_paper, STREET.with_stock(-4), lent)
        self.assertNo(is_short_paper, STREET.with_stock(-5), lent)

    def test_any_value(self):
        for value in NO_LISTS:
            self.assertNo(is_short_paper, SHORT, value)
            self.assertNo(is_short_paper, SHORT, [PAPER[0], value])
            self.assertNo(is_short_paper, SHORT, [value, PAPER[1]])

    def test_just_a_plan_or_a_short_paper(self):
        short = 0
        for street, plans in small_streets(109, 40):
            layouts = plain_layouts(street)
            for stock in (street.stock, street.stock + 1, street.stock - 20):
                other = street.with_stock(stock)
                try:
                    wanted = shortage(other)
                except TooMany as error:
                    self.assertIn(error.what, ("sums", "lots"))
                    break
                best = best_plan(banked(other), bank_plan(other, some_layout(other)))
                self.assertIs(is_short_paper(other, best), some_plan(other) is None)
                short += wanted > 0
                for layout in layouts[::max(1, len(layouts) // 5)]:
                    plan = bank_plan(other, layout)
                    missing = abs(stock - plain_draw(other, layout))
                    self.assertIs(is_short_paper(other, plan), wanted == missing and wanted > 0)
        self.assertGreater(short, 20)


class TestErrors(BankCase):
    def test_errors(self):
        for value in NO_STREETS:
            for function in WITH_STREET + (some_layout,):
                self.assertInvalid(InvalidStreet, value, function, value)
            self.assertInvalid(InvalidStreet, value, bank_plan, value, None)
            self.assertInvalid(InvalidStreet, value, is_short_paper, value, None)
        for value in NO_LISTS + [[], [[]], [[((2, 0), 2)]], [[((2, 0), 4)]], [[((2, 0), 3)], []], [[((2, 1), 3)]], [[[(2, 0), 3]]],
                                 [[((2, 0), 1), ((2, 0), 2)]], [[((2, 0), 3), ((1, 1), 0)]], [[((2, False), 3)]], PAPER]:
            self.assertInvalid(InvalidLayout, value, bank_plan, STREET, value)

    def check_too_many(self, what, limit, street):
        layout = noughts(street)
        for function in WITH_STREET:
            self.assertTooMany(what, limit, function, street)
        self.assertTooMany(what, limit, bank_plan, street, layout)
        self.assertInvalid(InvalidLayout, [[]] * 6, bank_plan, street, [[]] * 6)
        for value in (None, [], layout):
            self.assertTooMany(what, limit, is_short_paper, street, value)
        self.check_layout(street, True)

    def test_limits(self):
        self.check_too_many("kinds", 5, still(SHELF, 5))
        self.check_too_many("kinds", 5, still(SHELF, 5, 0))
        self.check_too_many("kinds", 5, still(FIVE_COLUMNS, 5))
        self.check_too_many("kinds", 5, still(LOTS_201, 5))
        self.check_too_many("columns", 6, still(FIVE_COLUMNS, 4))
        self.check_too_many("columns", 6, still(Table((1, 1, 1, 1, 1, 1), (0, 1, 0, 1, 0, 0)), 1))
        self.check_too_many("lots", 300, still(LOTS_201, 4))
        self.assertGives(0, shortage, still(Table((1, 1, 1, 1), (0, 1, 0, 1)), 4))

    def test_limits_of_a_street_without_a_layout(self):
        kind = Kind(1, 1, [(0, 0)] * 3, [FREE] * 3)
        self.assertTooMany("kinds", 5, shortage, Street(SHELF, [kind] * 5, 0))
        self.assertTooMany("lots", 300, some_plan, Street(LOTS_201, [kind], 0))

    def test_limits_of_best_plan(self):
        street = still(WIDE_SUMS, 1, 3, 7)
        self.assertEqual(banked(street), plain_banked(street))
        self.assertEqual(bank_plan(street, noughts(street)), plain_bank_plan(street, noughts(street)))
        for function in (shortage, some_plan):
            self.assertTooMany("sums", 2000, function, street)
        self.assertTooMany("sums", 2000, is_short_paper, street, bank_plan(street, noughts(street)))
        many = Street(Table((1, 1), (0, 1)), [KIND.with_many(10 ** 20)], 10 ** 20 + 3)
        for name, what in (("MOST_STEPS", "steps"), ("MOST_ROWS", "rows")):
            with mock.patch("likestreets.led." + name, 0):
                for function in (shortage, some_plan):
                    self.assertTooMany(what, 0, function, many)
                self.assertEqual(banked(many), plain_banked(many))


if __name__ == "__main__":
    unittest.main()
