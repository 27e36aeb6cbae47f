"""Prices, their slopes and sums [6], [41]."""

import random
import unittest

from likestreets import prices as module
from likestreets.errors import InvalidNumber, InvalidPrice
from likestreets.prices import is_price, plus_prices, price_at, slope_at
from helpers import GREAT, NO_INTEGERS, NO_PRICES, Case, plain_price, some_price

BENT = (1, [(2, 3)])
FOUR = (-5, [(-3, 1), (0, 2), (1, 4), (10, 8)])
DIGITS = (-12345678901234567890, [(10 ** 19, 98765432109876543210)])
PRICES = [
    (0, []), (0, ()), BENT, (1, ((2, 3),)), FOUR, DIGITS, (GREAT, [(-GREAT, GREAT), (GREAT, 1)]), (-GREAT, []),
    (-1, [(0, 1), (2, 1)]), (7, [(-1, 10 ** 20)]),
]
NUMBERS = [0, 1, 2, 3, 4, -1, -2, -3, -4, 9, 10, 11, 10 ** 19, 10 ** 19 - 1, 10 ** 19 + 1, GREAT, -GREAT, GREAT - 1]


class TestPrices(Case):
    def test_interface(self):
        self.assertDefinedIn(module, "is_price", "price_at", "slope_at", "plus_prices")
        self.assertParameters(is_price, "value")
        self.assertParameters(price_at, "price", "number")
        self.assertParameters(slope_at, "price", "number")
        self.assertParameters(plus_prices, "price", "other")
        self.assertEqual(price_at(number=4, price=BENT), 10)
        self.assertEqual(plus_prices(other=BENT, price=(0, [])), BENT)

    def test_is_price(self):
        for value in PRICES:
            self.assertYes(is_price, value)
        for value in NO_PRICES:
            self.assertNo(is_price, value)
        self.assertYes(is_price, (0, [(1, 1), (2, 1), (3, 1), (4, 1)]))
        self.assertNo(is_price, (0, [(1, 1), (2, 1), (3, 1), (4, 1), (5, 1)]))
        self.assertYes(is_price, (0, ((1, 1), (2, 1))))
        for value in NO_INTEGERS:
            self.assertNo(is_price, (value, []))
            self.assertNo(is_price, (0, [(value, 1)]))
            self.assertNo(is_price, (0, [(0, value)]))
            self.assertNo(is_price, (0, [(0, 1), (value, 1)]))

    def test_price_at(self):
        self.assertEqual([price_at(BENT, number) for number in range(5)], [0, 1, 2, 6, 10])
        self.assertEqual([price_at((3, []), number) for number in (-2, 0, 5)], [-6, 0, 15])
        self.assertEqual([price_at(FOUR, number) for number in (-4, -3, -2, 0, 1, 2, 10, 11)],
                         [20, 15, 11, 3, 1, 3, 19, 29])
        self.assertEqual(price_at((0, [(-2, 1)]), -3), 0)
        self.assertEqual(price_at((0, [(-2, 1)]), 0), 2)
        self.assertEqual(price_at(DIGITS, 10 ** 19 + 2), DIGITS[0] * (10 ** 19 + 2) + 2 * DIGITS[1][0][1])
        for price in PRICES:
            for number in NUMBERS:
                self.assertGives(plain_price(price, number), price_at, price, number)

    def test_slope_at(self):
        self.assertEqual([slope_at(BENT, number) for number in (0, 1, 2, 3, -9)], [1, 1, 4, 4, 1])
        for price in PRICES:
            for number in NUMBERS:
                self.assertGives(plain_price(price, number + 1) - plain_price(price, number), slope_at, price, number)
            places = {place: more for place, more in price[1]}
            for number in range(-5, 12):
                rise = slope_at(price, number + 1) - slope_at(price, number)
                self.assertEqual(rise, places.get(number + 1, 0))

    def test_plus_prices(self):
        self.assertGives((0, [(0, 1), (2, 4)]), plus_prices, BENT, (-1, [(0, 1), (2, 1)]))
        self.assertGives((2, [(2, 6)]), plus_prices, BENT, (1, ((2, 3),)))
        self.assertGives((1, []), plus_prices, (1, ()), (0, []))
        self.assertGives((-10, [(-3, 2), (0, 4), (1, 8), (10, 16)]), plus_prices, FOUR, FOUR)
        self.assertGives((-4, [(-3, 1), (0, 2), (1, 5), (10, 8)]), plus_prices, FOUR, (1, [(1, 1)]))
        self.assertGives((0, [(1, 1), (2, 1), (3, 1), (4, 1)]), plus_prices, (0, [(2, 1), (4, 1)]), (0, [(1, 1), (3, 1)]))
        self.assertGives((GREAT + 1, [(-GREAT, GREAT), (0, 1), (GREAT, 1)]), plus_prices, PRICES[6], (1, [(0, 1)]))
        price = (1, [(2, 3)])
        found = plus_prices(price, (0, []))
        found[1].append((3, 1))
        self.assertEqual(price, (1, [(2, 3)]))

    def test_sums_cost_what_both_cost(self):
        source = random.Random(3)
        for _ in range(200):
            one, two = some_price(source, -4, 4, 9), some_price(source, -4, 4, 9)
            places = sorted({place for price in (one, two) for place, _ in price[1]})
            if len(places) > 4:
                self.assertTooMany("bends", 4, plus_prices, one, two)
            else:
                found = plus_prices(one, two)
                self.assertYes(is_price, found)
                self.assertEqual([place for place, _ in found[1]], places)
                self.assertSame(plus_prices(two, one), found)
                for number in list(range(-8, 9)) + [GREAT, -GREAT]:
                    self.assertEqual(price_at(found, number), price_at(one, number) + price_at(two, number))

    def test_too_many_bends(self):
        self.assertTooMany("bends", 4, plus_prices, FOUR, BENT)
        self.assertTooMany("bends", 4, plus_prices, (0, [(1, 1), (2, 1), (3, 1)]), (0, [(4, 1), (5, 1)]))
        self.assertTooMany("bends", 4, plus_prices, (0, ((1, 1), (2, 1), (3, 1), (4, 1))), (0, ((4, 1), (5, 1))))
        self.assertEqual(plus_prices((0, [(1, 1), (2, 1), (3, 1)]), (0, [(3, 1), (5, 1)]))[1][3], (5, 1))

    def test_errors(self):
        for value in NO_PRICES:
            self.assertInvalid(InvalidPrice, value, price_at, value, 1)
            self.assertInvalid(InvalidPrice, value, price_at, value, None)
            self.assertInvalid(InvalidPrice, value, slope_at, value, None)
            self.assertInvalid(InvalidPrice, value, plus_prices, value, BENT)
            self.assertInvalid(InvalidPrice, value, plus_prices, value, None)
            self.assertInvalid(InvalidPrice, value, plus_prices, BENT, value)
        for value in NO_INTEGERS:
            self.assertInvalid(InvalidNumber, value, price_at, BENT, value)
            self.assertInvalid(InvalidNumber, value, slope_at, BENT, value)


if __name__ == "__main__":
    unittest.main()
