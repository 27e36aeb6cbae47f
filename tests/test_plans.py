"""House plans, layouts, plans, and how far apart they are [6], [43], [45], [46]."""

import itertools
import random
import unittest

from likestreets import plans as module
from likestreets.errors import InvalidHouse, InvalidKind, InvalidLayout, InvalidPlan, InvalidStreet
from likestreets.kinds import Kind
from likestreets.plans import (
    all_houses, apart, drawn, house_price, is_house, is_layout, is_plan, layout_price, told_plan,
)
from likestreets.streets import Street
from likestreets.tables import Table
from helpers import (
    GREAT, NO_INTEGERS, NO_LISTS, NO_ROWS, SHELF, Case, houses_told, plain_cost, plain_draw, plain_houses,
    plain_house_price, plain_layouts, plain_plans, plain_worth, some_street,
)

SHOP = Kind(2, 1, [(0, 1), (0, 1), (0, 1)], [(0, []), (3, []), (1, [])])
STREET = Street(SHELF, [SHOP, SHOP.with_many(1)], 3)
ONE = [[((0, 1, 0), 2)], [((0, 1, 0), 1)]]
TWO = [[([0, 0, 1], 1), ((1, 0, 0), 1)], [((0, 1, 0), 1)]]
BIG = Street(SHELF, [SHOP.with_many(3 * 10 ** 20)], 3 * 10 ** 20)
EMPTY = Kind(0, 5, [(0, 1)] * 3, [(0, [])] * 3)
NO_STREETS = NO_LISTS + [[], (), (SHELF, [SHOP], 3), Street, SHOP]
NO_HOUSES = NO_ROWS + [
    [0, 1], [0, 1, 0, 0], [0, 0, 0], [1, 1, 0], [2, 0, -1], [0, 2, -1], (1, 1, -1), [0, True, 0], [False, 1, 0], [1, 0, GREAT],
]
NO_LAYOUTS = NO_LISTS + [
    [], (), [[]], [[], []], ONE[:1], ONE + [[]], ONE + [[((0, 1, 0), 1)]], ONE[::-1], [((0, 1, 0), 2), ((0, 1, 0), 1)],
    [[((0, 1, 0), 2)], []], [[((0, 1, 0), 1)], [((0, 1, 0), 1)]], [[((0, 1, 0), 3)], [((0, 1, 0), 1)]],
    [[((0, 1, 0), 2)], [((0, 1, 0), 2)]], [[((0, 1, 0), 1), ((0, 1, 0), 1)], [((0, 1, 0), 1)]],
    [[((0, 1, 0), 1), ([0, 1, 0], 1)], [((0, 1, 0), 1)]], [[((0, 1, 0), 2), ((1, 0, 0), 0)], [((0, 1, 0), 1)]],
    [[((0, 1, 0), 3), ((1, 0, 0), -1)], [((0, 1, 0), 1)]], [[((0, 1, 0), 2)], [((0, 1, 0), True)]],
    [[((0, 1, 0), 2)], [((0, True, 0), 1)]], [[((0, 1, 0), 2)], [((False, 1, 0), 1)]], [[[(0, 1, 0), 2]], [((0, 1, 0), 1)]],
    [[((0, 1, 0), 2)], [[(0, 1, 0), 1]]], [[((0, 1, 0), 2)], [((0, 1, 0),)]], [[((0, 1, 0), 2)], [((0, 1, 0), 1, 1)]],
    [[((0, 1, 0), 2)], [((0, 1, 0), "1")]], [[((0, 1, 0), 2)], [((0, 1, 0), None)]], [[((0, 1, 0), 2)], None],
    [[((0, 1, 0), 2)], {}], [[((0, 1, 0), 2)], [None]], [[((0, 1, 0), 2)], ((0, 1, 0), 1)], [[((0, 1), 2)], [((0, 1, 0), 1)]],
    [[((2, 0, -1), 2)], [((0, 1, 0), 1)]], [[((1, 1, 0), 2)], [((0, 1, 0), 1)]], [[("010", 2)], [((0, 1, 0), 1)]],
    [[{(0, 1, 0): 2}], [((0, 1, 0), 1)]], [{(0, 1, 0): 2}, {(0, 1, 0): 1}], [[((0, 1, 0), 2)], [((0, 1, 0), [1])]],
]


class TestHouses(Case):
    def test_interface(self):
        self.assertDefinedIn(module, "is_house", "house_price", "all_houses", "is_layout", "drawn", "layout_price",
                             "is_plan", "told_plan", "apart")
        self.assertParameters(is_house, "street", "kind", "value")
        self.assertParameters(house_price, "street", "kind", "house")
        self.assertParameters(all_houses, "street", "kind")
        for function in (is_layout, is_plan):
            self.assertParameters(function, "street", "value")
        for function in (drawn, layout_price):
            self.assertParameters(function, "street", "layout")
        self.assertParameters(told_plan, "street", "plan")
        self.assertParameters(apart, "street", "plan", "target")
        self.assertEqual(apart(target=TWO, plan=ONE, street=STREET), 2)
        self.assertEqual(house_price(house=(0, 1, 0), kind=0, street=STREET), 3)
        self.assertEqual(all_houses(kind=0, street=STREET), all_houses(STREET, 0))

    def test_is_house(self):
        for house in ((0, 1, 0), [1, 0, 0], (0, 0, 1)):
            self.assertYes(is_house, STREET, 0, house)
            self.assertYes(is_house, STREET, 1, house)
        for value in NO_HOUSES:
            self.assertNo(is_house, STREET, 0, value)
        wide = Street(SHELF, [Kind(1, 0, [(-GREAT, GREAT)] * 3, [(0, [])] * 3)], 0)
        self.assertYes(is_house, wide, 0, (GREAT, -GREAT, 0))
        self.assertNo(is_house, wide, 0, (GREAT, -GREAT, 1))
        self.assertNo(is_house, wide, 0, (GREAT + 1, -GREAT, -1))
        none = Street(SHELF, [EMPTY], 0)
        self.assertNo(is_house, none, 0, (1, 1, 1))
        tight = Street(SHELF, [Kind(1, -1, [(2, 2), (-3, -3), (0, 0)], [(0, [])] * 3)], 0)
        self.assertYes(is_house, tight, 0, [2, -3, 0])
        self.assertNo(is_house, tight, 0, [1, -2, 0])

    def test_all_houses(self):
        self.assertGives([(0, 0, 1), (0, 1, 0), (1, 0, 0)], all_houses, STREET, 0)
        self.assertGives([], all_houses, Street(SHELF, [SHOP, EMPTY], 0), 1)
        self.assertGives([(1, 0, 0)], all_houses, Street(SHELF, [Kind(0, 1, [(1, 1), (0, 0), (0, 0)], [(0, [])] * 3)], 0), 0)
        source = random.Random(4)
        for _ in range(60):
            table = Table([source.randint(-2, 3) for _ in range(2)], [source.randint(-2, 3) for _ in range(2)])
            street, _ = some_street(source, table, [1, 0], 4)
            for kind in (0, 1):
                wanted = plain_houses(table, street.kinds()[kind])
                self.assertGives(wanted, all_houses, street, kind)
                for row in itertools.product(range(-5, 6), repeat=2):
                    self.assertEqual(is_house(street, kind, row), row in wanted)

    def test_what_one_is_more_is_a_change(self):
        rows = all_houses(Street(SHELF, [Kind(1, 4, [(0, 4), (-1, 3), (1, 2)], [(0, [])] * 3)], 0), 0)
        for one, two in itertools.product(rows, repeat=2):
            self.assertEqual(plain_worth([a - b for a, b in zip(one, two)], SHELF.own), 0)

    def test_box_of_300_rows(self):
        table = Table((1, 1, 1, 1), (0, 0, 0, 1))
        for bounds, many in (([(0, 2), (-9, 0), (1, 10), (5, 5)], 300), ([(0, 299), (0, 0), (3, 3), (1, 1)], 300),
                             ([(0, 300), (0, 0), (0, 0), (0, 0)], 301), ([(0, 6), (0, 42), (0, 0), (0, 0)], 301)):
            street = Street(table, [Kind(1, 5, bounds, [(0, [])] * 4)], 0)
            if many <= 300:
                self.assertGives(plain_houses(table, street.kinds()[0]), all_houses, street, 0)
            else:
                self.assertTooMany("houses", 300, all_houses, street, 0)
        wide = Street(table, [Kind(1, 5, [(-GREAT, GREAT)] * 4, [(0, [])] * 4), Kind(0, 9, [(0, 5)] * 4, [(0, [])] * 4)], 0)
        self.assertTooMany("houses", 300, all_houses, wide, 0)
        self.assertTooMany("houses", 300, all_houses, wide, 1)
        self.assertInvalid(InvalidKind, 2, all_houses, wide, 2)

    def test_house_price(self):
        kind = Kind(1, 4, [(-5, 5)] * 3, [(1, [(2, 3)]), (-2, []), (0, [(-1, 1), (0, 10 ** 20)])])
        street = Street(SHELF, [SHOP, kind], 0)
        self.assertGives(10 + 0 + 1, house_price, street, 1, [4, 0, 0])
        self.assertGives(1 - 4 + 2 + 10 ** 20, house_price, street, 1, (1, 2, 1))
        for house in all_houses(Street(SHELF, [kind.with_many(2)], 0).with_kind(0, Kind(1, 4, [(0, 4)] * 3, kind.prices())), 0):
            self.assertGives(plain_house_price(kind, house), house_price, street, 1, house)

    def test_errors(self):
        for value in NO_STREETS:
            self.assertInvalid(InvalidStreet, value, is_house, value, 0, (0, 1, 0))
            self.assertInvalid(InvalidStreet, value, house_price, value, None, None)
            self.assertInvalid(InvalidStreet, value, all_houses, value, None)
        for value in NO_INTEGERS + [-1, 2, GREAT, -GREAT]:
            self.assertInvalid(InvalidKind, value, is_house, STREET, value, (0, 1, 0))
            self.assertInvalid(InvalidKind, value, house_price, STREET, value, None)
            self.assertInvalid(InvalidKind, value, all_houses, STREET, value)
        for value in NO_HOUSES:
            self.assertInvalid(InvalidHouse, value, house_price, STREET, 1, value)


class TestLayouts(Case):
    def test_is_layout(self):
        for value in (ONE, TWO, tuple(ONE), [tuple(share) for share in TWO], [ONE[0], [([1, 0, 0], 1)]],
                      [[((1, 0, 0), 1), ((0, 0, 1), 1)], ONE[1]]):
            self.assertYes(is_layout, STREET, value)
            self.assertYes(is_layout, STREET.with_stock(99), value)
        for value in NO_LAYOUTS:
            self.assertNo(is_layout, STREET, value)
            self.assertNo(is_plan, STREET, value)
        for value in NO_HOUSES:
            self.assertNo(is_layout, STREET, [[((0, 1, 0), 1), (value, 1)], [((0, 1, 0), 1)]])
        for value in NO_INTEGERS + [0, -1, 2]:
            self.assertNo(is_layout, STREET, [[((0, 1, 0), 2)], [((0, 1, 0), value)]])

    def test_kinds_without_houses(self):
        street = Street(SHELF, [EMPTY, SHOP.with_many(1), SHOP.with_many(0)], 1)
        self.assertYes(is_plan, street, [[], [((0, 1, 0), 1)], ()])
        self.assertNo(is_layout, street, [[], [((0, 1, 0), 1)]])
        self.assertNo(is_layout, street, [[], [((0, 1, 0), 1)], [((0, 1, 0), 1)]])
        self.assertNo(is_layout, street, [[], [((0, 1, 0), 1)], None])
        nobody = Street(SHELF, [EMPTY], 0)
        self.assertYes(is_plan, nobody, [[]])
        self.assertNo(is_plan, nobody.with_stock(1), [[]])
        self.assertYes(is_layout, nobody.with_stock(1), [()])
        self.assertGives([[]], told_plan, nobody, ((),))
        self.assertGives(0, layout_price, nobody, [[]])
        self.assertGives(0, drawn, nobody, [[]])
        self.assertGives(0, apart, nobody, [[]], ((),))
        self.assertNo(is_layout, Street(SHELF, [EMPTY.with_many(1)], 0), [[]])

    def test_one_and_five_kinds(self):
        five = Street(SHELF, [SHOP.with_many(many) for many in (1, 2, 0, 3, 1)], 7)
        layout = [[((0, 1, 0), 1)], [((0, 0, 1), 1), ((1, 0, 0), 1)], [], [((0, 1, 0), 3)], [([0, 1, 0], 1)]]
        self.assertYes(is_plan, five, layout)
        self.assertGives(7, drawn, five, layout)
        self.assertGives(3 + 1 + 9 + 3, layout_price, five, layout)
        self.assertYes(is_plan, Street(SHELF, [SHOP], 2), ONE[:1])

    def test_drawn_and_price(self):
        self.assertGives(3, drawn, STREET, ONE)
        self.assertGives(9, layout_price, STREET, ONE)
        self.assertGives(4, layout_price, STREET, TWO)
        self.assertGives(5, drawn, STREET, [[((0, 0, 1), 2)], [((0, 1, 0), 1)]])
        many = [[((0, 0, 1), 10 ** 20), ((0, 1, 0), 10 ** 20), ((1, 0, 0), 10 ** 20)]]
        self.assertGives(3 * 10 ** 20, drawn, BIG, many)
        self.assertGives(4 * 10 ** 20, layout_price, BIG, many)
        self.assertYes(is_plan, BIG, many)
        self.assertNo(is_plan, BIG, [[((0, 0, 1), 10 ** 20), ((0, 1, 0), 10 ** 20), ((1, 0, 0), 10 ** 20 - 1)]])
        source = random.Random(8)
        for _ in range(40):
            street, layout = some_street(source, Table((1, -2, 1), (2, 0, -1)), [2, 3], 3)
            self.assertGives(plain_cost(street, layout), layout_price, street, layout)
            self.assertGives(plain_draw(street, layout), drawn, street.with_stock(GREAT), layout)
            self.assertYes(is_plan, street, layout)
            self.assertNo(is_plan, street.with_stock(street.stock + 1), layout)

    def test_all_layouts(self):
        layouts = plain_layouts(STREET)
        self.assertEqual(len(layouts), 18)
        for layout in layouts:
            self.assertYes(is_layout, STREET, layout)
            self.assertEqual(is_plan(STREET, layout), plain_draw(STREET, layout) == 3)
            self.assertNo(is_layout, STREET, layout[:1])
            self.assertNo(is_layout, STREET, [layout[0][1:], layout[1]])

    def test_parted_kinds_tell_the_same_prices(self):
        whole = Street(SHELF, [SHOP.with_many(5)], 5)
        parted = Street(SHELF, [SHOP.with_many(2), SHOP.with_many(3)], 5)
        prices = sorted({layout_price(whole, plan) for plan in plain_plans(whole)})
        self.assertEqual(prices, sorted({layout_price(parted, plan) for plan in plain_plans(parted)}))

    def test_told_plan(self):
        self.assertGives([[((0, 0, 1), 1), ((1, 0, 0), 1)], [((0, 1, 0), 1)]], told_plan, STREET, TWO)
        self.assertGives([[((0, 0, 1), 1), ((1, 0, 0), 1)], [((0, 1, 0), 1)]], told_plan, STREET,
                         ((([1, 0, 0], 1), ((0, 0, 1), 1)), (([0, 1, 0], 1),)))
        wide = Street(SHELF, [Kind(6, 2, [(-5, 5)] * 3, [(0, [])] * 3)], 0)
        layout = [[((2, 0, 0), 2), ((-1, 4, -1), 1), ([4, -2, 0], 1), ((0, 4, -2), 1), ((3, -2, 1), 1)]]
        wide = wide.with_stock(plain_draw(wide, layout))
        self.assertGives([sorted([(tuple(house), many) for house, many in layout[0]])], told_plan, wide, layout)

    def test_apart(self):
        self.assertGives(2, apart, STREET, ONE, TWO)
        self.assertGives(2, apart, STREET, TWO, ONE)
        self.assertGives(0, apart, STREET, TWO, [[((1, 0, 0), 1), ((0, 0, 1), 1)], [([0, 1, 0], 1)]])
        third = [[((0, 0, 1), 1), ((0, 1, 0), 1)], [((1, 0, 0), 1)]]
        self.assertGives(2, apart, STREET, ONE, third)
        self.assertGives(2, apart, STREET, TWO, third)
        here, there = [[((0, 1, 0), 3 * 10 ** 20)]], [[((0, 1, 0), 10 ** 20), ((1, 0, 0), 10 ** 20), ((0, 0, 1), 10 ** 20)]]
        self.assertGives(2 * 10 ** 20, apart, BIG, here, there)
        self.assertGives(2 * 10 ** 20, apart, BIG, there, here)
        other = [[((0, 1, 0), 10 ** 20 + 2), ((1, 0, 0), 10 ** 20 - 1), ((0, 0, 1), 10 ** 20 - 1)]]
        self.assertGives(2, apart, BIG, there, other)

    def test_apart_by_houses(self):
        source = random.Random(2)
        for _ in range(20):
            street, _ = some_street(source, SHELF, [2, 2], 2)
            plans = plain_plans(street)
            for one in source.sample(plans, min(5, len(plans))):
                self.assertEqual(apart(street, one, one), 0)
                for two in source.sample(plans, min(5, len(plans))):
                    least = 0
                    for share, other in zip(one, two):
                        ways = itertools.permutations(houses_told(other))
                        least += min([sum([a != b for a, b in zip(houses_told(share), way)]) for way in ways])
                    self.assertGives(least, apart, street, one, two)
                    self.assertEqual(apart(street, two, one), least)

    def test_errors(self):
        for value in NO_STREETS:
            for function in (is_layout, is_plan, drawn, layout_price, told_plan):
                self.assertInvalid(InvalidStreet, value, function, value, ONE)
                self.assertInvalid(InvalidStreet, value, function, value, None)
            self.assertInvalid(InvalidStreet, value, apart, value, None, None)
        for value in NO_LAYOUTS:
            self.assertInvalid(InvalidLayout, value, drawn, STREET, value)
            self.assertInvalid(InvalidLayout, value, layout_price, STREET, value)
        lesser = [[((0, 1, 0), 2)], [((1, 0, 0), 1)]]
        self.assertYes(is_layout, STREET, lesser)
        for value in NO_LAYOUTS + [lesser]:
            self.assertInvalid(InvalidPlan, value, told_plan, STREET, value)
            self.assertInvalid(InvalidPlan, value, apart, STREET, value, ONE)
            self.assertInvalid(InvalidPlan, value, apart, STREET, value, None)
            self.assertInvalid(InvalidPlan, value, apart, STREET, ONE, value)


if __name__ == "__main__":
    unittest.main()
