"""Plans led to best ones [4], [64], [65]."""

import random
import unittest
from unittest import mock

from likestreets import led as module
from likestreets.better import is_best
from likestreets.errors import InvalidPlan, InvalidStreet, TooMany
from likestreets.exchanges import done, exchange_to, turned_back
from likestreets.kinds import Kind
from likestreets.led import best_plan, best_price, is_steps, steps
from likestreets.plans import is_plan, layout_price
from likestreets.saved import is_bettering
from likestreets.streets import Street
from likestreets.stuck import stuck_street
from likestreets.tables import Table
from helpers import (
    APART, GREAT, NO_EXCHANGES, NO_LISTS, NO_PLANS, NO_STREETS, ONE_FREE, RANK_0, SHELF, SHOPS, SWAP, Case,
    plain_bank_plan, plain_banked, plain_cost, plain_draw, plain_least_prices, plain_plans, plain_worth, row_sum,
    small_streets, some_street,
)

EVEN = Street(Table((1, 1), (0, 1)), [Kind(4, 2, [(0, 2), (0, 2)], [(0, []), (0, [(1, 1)])])], 4)
ENDS = [[((0, 2), 2), ((2, 0), 2)]]
ONE = [(0, (0, 2), (1, -1), 1), (0, (2, 0), (-1, 1), 1)]
MIDDLE = [[((1, 1), 4)]]
SUMS_2016 = Table((-1, 2, -3), (2, -3, -1))
SOME_TABLES = [
    ((1, 1, 1), (0, 1, 2)), ((1, 2, 3), (1, 0, 0)), ((2, 3), (1, -1)), ((0, 0, 1), (2, 3, 1)), ((3, 1, -2), (1, 1, 0)),
    ((1, -1, 1), (3, 2, -2)), ((0, 1, 0), (4, 1, -3)), ((3, 4, 0), (4, -4, 1)), ((1, 1), (2, 2)),
]
LOW = Kind(10 ** 20, 3, [(0, 3), (0, 3)], [(0, [(1, 2)]), (1, [(1, 1), (2, 5)])])
HIGH = Kind(3 * 10 ** 19 + 7, 5, [(2, 5), (0, 3)], [(-2, [(3, 1), (4, 1)]), (0, [(0, 2)])])


def shared(source, many, houses):
    """The houses shared out among some of the house plans, told."""
    counts, left = {}, many
    for house in source.sample(houses, len(houses)):
        taken = source.randint(0, left)
        counts[house] = taken
        left -= taken
    counts[houses[-1]] += left
    return sorted([(house, taken) for house, taken in counts.items() if taken])


def giant_street(source, size, width):
    """A street of one or two kinds, each of many houses and of at most six house plans, and a plan of it."""
    own = source.choice([(1, 1), (1, -1), (2, 3), (1, 0), (0, 2), (4, -2), (-3, 1)])
    table = Table(own, [source.randint(-2, 3), source.randint(-2, 3)])
    way = [(1, 0), (0, 1)][own == (1, 0)] if 0 in own else None
    divided = {(4, -2): (1, 2), (1, 1): (1, -1), (1, -1): (1, 1), (2, 3): (3, -2), (-3, 1): (1, 3)}
    step = way or divided[own]
    kinds, layout = [], []
    for _ in range(source.choice([1, 2])):
        first = (source.randint(-width, width), source.randint(-width, width))
        houses = [tuple([number + times * more for number, more in zip(first, step)]) for times in range(source.randint(1, 6))]
        bounds = [(min(column), max(column)) for column in zip(*houses)]
        many = source.choice([0, 1, 5, source.randint(1, size), size])
        prices = [(source.randint(-9, 9), [(place, source.randint(1, 9)) for place in range(low, min(high, low + 4))])
                  for low, high in bounds]
        kinds.append(Kind(many, plain_worth(first, own), bounds, prices))
        layout.append(shared(source, many, houses))
    street = Street(table, kinds, 0)
    return street.with_stock(plain_draw(street, layout)), layout


class LedCase(Case):
    def check(self, street, plan):
        """Steps, best plan and best price agree, step for step; returns the steps."""
        found = steps(street, plan)
        self.assertIs(type(found), list)
        now = plan
        for exchange in found:
            self.assertExchange(exchange)
            self.assertTrue(is_bettering(street, now, exchange))
            now = done(street, now, exchange)
        self.assertTrue(is_best(street, now))
        self.assertYes(is_steps, street, plan, found)
        self.assertEqual(found == [], is_best(street, plan))
        best = best_plan(street, plan)
        self.assertTrue(is_plan(street, best) and is_best(street, best))
        self.assertGives([sorted([(tuple(house), many) for house, many in share]) for share in best],
                         best_plan, street, plan)
        self.assertGives(plain_cost(street, best), best_price, street, plan)
        self.assertEqual(plain_cost(street, now), plain_cost(street, best))
        return found


class TestLed(LedCase):
    def test_interface(self):
        self.assertDefinedIn(module, "best_plan", "best_price", "steps", "is_steps")
        for function in (best_plan, best_price, steps):
            self.assertParameters(function, "street", "plan")
        self.assertParameters(is_steps, "street", "plan", "value")
        self.assertEqual(best_price(plan=ENDS, street=EVEN), 0)
        self.assertEqual(best_plan(plan=ENDS, street=EVEN), MIDDLE)
        self.assertTrue(is_steps(value=steps(plan=ENDS, street=EVEN), plan=ENDS, street=EVEN))

    def test_told(self):
        self.assertGives(0, best_price, EVEN, ENDS)
        self.assertGives(MIDDLE, best_plan, EVEN, ENDS)
        self.assertGives(MIDDLE, best_plan, EVEN, ((([2, 0], 2), ([0, 2], 2)),))
        self.assertGives([], steps, EVEN, MIDDLE)
        self.assertGives([[((0, 1, 0), 3)]], best_plan, SHOPS, APART)
        self.assertGives(3, best_price, SHOPS, APART)
        self.check(EVEN, ENDS)
        self.check(SHOPS, APART)

    def test_against_all_plans(self):
        for street, plans in small_streets(71, 150):
            least = min([plain_cost(street, plan) for plan in plans])
            for plan in plans[::max(1, len(plans) // 4)]:
                self.check(street, plan)
                self.assertGives(least, best_price, street, plan)
                self.assertIn(best_plan(street, plan), plans)

    def test_against_the_cheapest_house_by_house(self):
        source = random.Random(77)
        reaches = {}
        for own, common in SOME_TABLES:
            for _ in range(6):
                houses = [source.randint(0, 6) for _ in range(source.randint(1, 5))]
                street, plan = some_street(source, Table(own, common), houses, 4, 20)
                reaches[street.reach] = True
                self.assertGives(plain_least_prices(street)[street.stock], best_price, street, plan)
        self.assertEqual(sorted(reaches), [1, 2, 3, 5, 7, 29])

    def test_no_houses_and_no_changes(self):
        nobody = Street(SHELF, [Kind(0, 9, [(0, 1)] * 3, [(0, [])] * 3)] * 2, 0)
        self.assertEqual(self.check(nobody, [[], ()]), [])
        self.assertGives([[], []], best_plan, nobody, ((), []))
        self.assertGives(0, best_price, nobody, [[], []])
        alone = Street(RANK_0, [Kind(10 ** 20, 6, [(-9, 9)], [(5, [])])], 2 * 10 ** 20)
        self.assertGives([[((2,), 10 ** 20)]], best_plan, alone, [[([2], 10 ** 20)]])
        self.assertGives(10 ** 21, best_price, alone, [[((2,), 10 ** 20)]])

    def test_stuck(self):
        for table in (SHELF, ONE_FREE, Table((0, 0), (4, -3)), Table((3, 4, 0), (4, -4, 0))):
            street, plan, target = stuck_street(table)
            self.assertEqual(len(self.check(street, plan)), 1)
            self.assertGives(target, best_plan, street, plan)

    def test_facts_of_the_best_price(self):
        source = random.Random(72)
        for street, plans in small_streets(72, 40):
            price = best_price(street, source.choice(plans))
            number, other = source.randint(-9, 9), source.randint(-9, 9)
            kinds = []
            for at, kind in enumerate(street.kinds()):
                slopes = [number * entry for entry in street.table.common]
                if at == 0:
                    slopes = row_sum(slopes, [other * entry for entry in street.table.own])
                prices = [(slope + more, bends) for (slope, bends), more in zip(kind.prices(), slopes)]
                kinds.append(Kind(kind.many, kind.rest, kind.bounds(), prices))
            first = street.kinds()[0]
            wanted = price + number * street.stock + other * first.rest * first.many
            self.assertEqual(best_price(Street(street.table, kinds, street.stock), plans[0]), wanted)

    def test_parted_kinds(self):
        kind = Kind(5, 3, [(0, 3), (-1, 2), (0, 2)], [(0, [(1, 3)]), (2, [(0, 1), (1, 1)]), (1, [(1, 4)])])
        whole = Street(SHELF, [kind], 7)
        parted = Street(SHELF, [kind.with_many(2), kind.with_many(3)], 7)
        prices = {best_price(street, plan) for street in (whole, parted) for plan in plain_plans(street)[::5]}
        self.assertEqual(len(prices), 1)

    def test_five_houses_and_three_columns(self):
        source = random.Random(73)
        for number in range(60):
            table = Table([source.randint(-3, 3) for _ in range(3)], [source.randint(-2, 2) for _ in range(3)])
            try:
                street, plan = some_street(source, table, source.choice([[5], [2, 3], [1] * 5, [1, 0, 4]]), 6, 20)
                if is_best(street, plan):
                    continue
            except TooMany as error:
                self.assertIn(error.what, ("changes", "lots", "sums"))
                continue
            self.assertLess(len(self.check(street, plan)), 100)
            self.check_banked(street, plan, source, 10 ** 20)

    def check_banked(self, street, plan, source, size):
        if len(street.kinds()) == 5:
            return
        for stock in (street.stock, street.stock + source.randint(-9, 9), source.randint(-size, size)):
            other = street.with_stock(stock)
            try:
                banked = plain_banked(other)
                start = plain_bank_plan(other, plan)
                is_best(banked, start)
            except TooMany as error:
                self.assertIn(error.what, ("changes", "lots", "sums"))
                continue
            self.assertLess(len(self.check(banked, start)), 300)
            if stock == street.stock:
                self.assertGives(0, best_price, banked, start)


class TestManyHouses(LedCase):
    def test_two_columns(self):
        street = Street(Table((1, 1), (0, 1)), [LOW, HIGH], 0)
        plan = [[((0, 3), 10 ** 20 - 5), ((3, 0), 5)], [((2, 3), 7), ((5, 0), 3 * 10 ** 19)]]
        street = street.with_stock(plain_draw(street, plan))
        self.assertLess(len(self.check(street, plan)), 100)
        self.assertLess(best_price(street, plan), layout_price(street, plan))

    def test_an_exchange_of_two_done_very_often(self):
        kind = Kind(2 * 10 ** 20, 2, [(0, 2)] * 2, [(0, []), (0, [(1, 1)])])
        street = Street(Table((1, 1), (0, 1)), [kind], 2 * 10 ** 20)
        plan = [[((0, 2), 10 ** 20), ((2, 0), 10 ** 20)]]
        self.assertEqual(len(self.check(street, plan)), 1)
        self.assertGives([[((1, 1), 2 * 10 ** 20)]], best_plan, street, plan)
        uneven = street.with_stock(2 * 10 ** 20 + 12345678901234567)
        plan = [[((0, 2), 10 ** 20 + 12345678901234567), ((2, 0), 10 ** 20 - 12345678901234567)]]
        uneven = uneven.with_stock(plain_draw(uneven, plan))
        self.assertLess(len(self.check(uneven, plan)), 10)
        self.assertGives(2 * 12345678901234567, best_price, uneven, plan)

    def test_streets_that_are_never_too_many(self):
        source = random.Random(74)
        for number in range(60):
            size = source.choice([9, 10 ** 20, GREAT])
            street, plan = giant_street(source, size, source.choice([3, 10 ** 18]))
            self.assertLess(len(self.check(street, plan)), 300)

    def test_their_banked_streets(self):
        source = random.Random(75)
        for number in range(25):
            size = source.choice([9, 10 ** 20, GREAT])
            street, plan = giant_street(source, size, source.choice([3, 10 ** 18]))
            for stock in (street.stock, street.stock + source.randint(-size, size), source.choice([-1, 1]) * 10 ** 29):
                other = street.with_stock(stock)
                banked = plain_banked(other)
                start = plain_bank_plan(other, plan)
                try:
                    is_best(banked, start)
                except TooMany as error:
                    self.assertEqual(error.what, "sums")
                    continue
                self.assertLess(len(self.check(banked, start)), 300)
                if stock == street.stock:
                    self.assertGives(0, best_price, banked, start)

    def test_bank_that_keeps_and_lends_too_much(self):
        street = Street(Table((1, 1), (0, 1)), [Kind(10 ** 20, 2, [(0, 2)] * 2, [(0, []), (0, [])])], 10 ** 29 + 7)
        banked = plain_banked(street)
        for more in (1, 10 ** 20, 3 * 10 ** 28 + 1):
            plan = [[((2, 0, 0, 0), 10 ** 20)], [((0, 0, 10 ** 29 + 7 + more, more), 1)]]
            banked = banked.with_kind(1, Kind(1, 0, [(0, 0)] * 2 + [(0, 10 ** 30)] * 2, banked.kinds()[1].prices()))
            self.check(banked, plan)
            self.assertGives(10 ** 29 + 7 - 2 * 10 ** 20, best_price, banked, plan)

    def test_three_columns(self):
        kind = Kind(3 * 10 ** 20, 1, [(0, 1)] * 3, [(0, []), (1, []), (3, [])])
        street = Street(SHELF, [kind], 3 * 10 ** 20)
        plan = [[((0, 0, 1), 10 ** 20), ((0, 1, 0), 10 ** 20), ((1, 0, 0), 10 ** 20)]]
        self.assertLess(len(self.check(street, plan)), 20)
        self.assertGives(3 * 10 ** 20, best_price, street, plan)


class TestIsSteps(LedCase):
    def test_yes_and_no(self):
        other = [(0, (2, 0), (-1, 1), 1), (0, (0, 2), (1, -1), 1)]
        twice = [(0, (0, 2), (1, -1), 2), (0, (2, 0), (-1, 1), 2)]
        for value in ([ONE, ONE], (tuple(ONE), other), [twice], [[(0, [0, 2], [1, -1], 1), ONE[1]], ONE]):
            self.assertYes(is_steps, EVEN, ENDS, value)
        for value in ([ONE], [], (), [ONE, ONE, ONE], [twice, ONE], [ONE, twice], [ONE, []], [[], ONE, ONE], [ONE, ONE, []],
                      ONE, [ONE[0], ONE[1]], [[ONE, ONE]], [ONE, ONE, None], [None, ONE, ONE], {0: ONE, 1: ONE},
                      [ONE, turned_back(EVEN, ENDS, ONE), ONE, ONE], [ONE[:1], ONE], [ONE, ONE[1:]]):
            self.assertNo(is_steps, EVEN, ENDS, value)
        self.assertYes(is_steps, EVEN, MIDDLE, [])
        self.assertYes(is_steps, EVEN, MIDDLE, ())
        self.assertNo(is_steps, EVEN, MIDDLE, [ONE])
        self.assertNo(is_steps, EVEN, MIDDLE, [[]])

    def test_steps_may_touch_many_houses(self):
        for street, plans in small_streets(76, 60):
            costs = sorted([(plain_cost(street, plan), at) for at, plan in enumerate(plans)])
            best, worst = plans[costs[0][1]], plans[costs[-1][1]]
            middle = plans[costs[len(costs) // 2][1]]
            one, two = exchange_to(street, worst, middle), exchange_to(street, middle, best)
            falling = costs[0][0] < costs[len(costs) // 2][0] < costs[-1][0]
            self.assertEqual(is_steps(street, worst, [one, two]), falling)
            self.assertEqual(is_steps(street, worst, [exchange_to(street, worst, best)]), costs[0][0] < costs[-1][0])
            self.assertEqual(is_steps(street, worst, [one]), costs[0][0] == costs[len(costs) // 2][0] < costs[-1][0])
            self.assertEqual(is_steps(street, best, []), True)

    def test_any_value(self):
        for value in NO_LISTS:
            self.assertNo(is_steps, EVEN, ENDS, value)
        for value in NO_EXCHANGES:
            self.assertNo(is_steps, SHOPS, APART, [value])
            self.assertNo(is_steps, SHOPS, APART, [SWAP, value])
        self.assertYes(is_steps, SHOPS, APART, [SWAP])


class TestErrors(Case):
    def test_errors(self):
        for value in NO_STREETS:
            for function in (best_plan, best_price, steps):
                self.assertInvalid(InvalidStreet, value, function, value, None)
            self.assertInvalid(InvalidStreet, value, is_steps, value, None, None)
        for value in NO_PLANS:
            for function in (best_plan, best_price, steps):
                self.assertInvalid(InvalidPlan, value, function, SHOPS, value)
            self.assertInvalid(InvalidPlan, value, is_steps, SHOPS, value, [SWAP])

    def test_too_many_sums(self):
        street = Street(SUMS_2016, [Kind(2, 0, [(0, 0)] * 3, [(0, [])] * 3)], 0)
        plan = [[((0, 0, 0), 2)]]
        for function in (best_plan, best_price, steps):
            self.assertTooMany("sums", 2000, function, street, plan)
            self.assertInvalid(InvalidPlan, [[]], function, street, [[]])
        for value in (None, [], [[]], [SWAP]):
            self.assertTooMany("sums", 2000, is_steps, street, plan, value)

    def test_too_many_rows(self):
        kinds = [Kind(60, 60, [(0, 60)] * 2, [(0, [(place, 1) for place in (20, 29, 31, 40)]), (0, [])]) for _ in range(4)]
        street = Street(Table((1, 1), (0, 1)), kinds, 0)
        plan = [[((number, 60 - number), 1) for number in range(60)] for _ in kinds]
        street = street.with_stock(plain_draw(street, plan))
        for function in (best_plan, best_price, steps):
            self.assertTooMany("rows", 200, function, street, plan)
        self.assertNo(is_steps, street, plan, [])
        rows, now = [], ENDS
        for exchange in steps(EVEN, ENDS):
            now = done(EVEN, now, exchange)
            rows.append(sum([len(share) for share in now]))
        with mock.patch("likestreets.led.MOST_ROWS", max(rows)):
            self.assertEqual(best_plan(EVEN, ENDS), MIDDLE)
        with mock.patch("likestreets.led.MOST_ROWS", max(rows) - 1):
            self.assertTooMany("rows", max(rows) - 1, best_plan, EVEN, ENDS)

    def test_too_many_steps(self):
        street = Street(Table((1, 1), (0, 1)), [LOW, HIGH], 0)
        plan = [[((0, 3), 10 ** 20 - 5), ((3, 0), 5)], [((2, 3), 7), ((5, 0), 3 * 10 ** 19)]]
        street = street.with_stock(plain_draw(street, plan))
        many = len(steps(street, plan))
        self.assertGreater(many, 1)
        with mock.patch("likestreets.led.MOST_STEPS", many):
            self.assertEqual(len(steps(street, plan)), many)
        with mock.patch("likestreets.led.MOST_STEPS", many - 1):
            for function in (best_plan, best_price, steps):
                self.assertTooMany("steps", many - 1, function, street, plan)


if __name__ == "__main__":
    unittest.main()
