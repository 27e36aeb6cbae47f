"""Exchanges grown and repeated [61], [62], [63]."""

import random
import unittest

from likestreets import scales as module
from likestreets.errors import InvalidExchange, InvalidMany, InvalidPlan, InvalidStreet, NotGrown
from likestreets.exchanges import is_exchange
from likestreets.kinds import Kind
from likestreets.saved import is_bettering, saving
from likestreets.scales import grown, most_grown, most_repeated, repeated
from likestreets.streets import Street
from likestreets.tables import Table
from helpers import (
    APART, GREAT, NO_EXCHANGES, NO_INTEGERS, NO_PLANS, NO_STREETS, SHELF, SHOPS, SWAP, Case, plain_is_exchange,
    small_streets, some_exchange,
)

EVEN = Street(Table((1, 1), (0, 1)), [Kind(4, 2, [(0, 2), (0, 2)], [(0, []), (0, [(1, 1)])])], 4)
ENDS = [[((0, 2), 2), ((2, 0), 2)]]
ONE = [(0, (0, 2), (1, -1), 1), (0, (2, 0), (-1, 1), 1)]
NO_TIMES = NO_INTEGERS + [0, -1, -GREAT]
FUNCTIONS = (grown, repeated, most_grown, most_repeated)


def times_grown(exchange, many):
    return sorted([(kind, tuple(house), tuple([many * step for step in change]), houses)
                   for kind, house, change, houses in exchange])


def times_repeated(exchange, many):
    return sorted([(kind, tuple(house), tuple(change), houses * many) for kind, house, change, houses in exchange])


class TestScales(Case):
    def test_interface(self):
        self.assertDefinedIn(module, "grown", "repeated", "most_grown", "most_repeated")
        for function in (grown, repeated):
            self.assertParameters(function, "street", "plan", "exchange", "many")
        for function in (most_grown, most_repeated):
            self.assertParameters(function, "street", "plan", "exchange")
        self.assertEqual(grown(many=1, exchange=ONE, plan=ENDS, street=EVEN), ONE)
        self.assertEqual(repeated(many=1, exchange=ONE, plan=ENDS, street=EVEN), ONE)
        self.assertEqual(most_grown(exchange=ONE, plan=ENDS, street=EVEN), 2)
        self.assertEqual(most_repeated(exchange=ONE, plan=ENDS, street=EVEN), 2)

    def test_told(self):
        self.assertGives(2, most_grown, EVEN, ENDS, ONE)
        self.assertGives(2, most_repeated, EVEN, ENDS, ONE)
        self.assertGives([(0, (0, 2), (2, -2), 1), (0, (2, 0), (-2, 2), 1)], grown, EVEN, ENDS, ONE, 2)
        self.assertGives([(0, (0, 2), (1, -1), 2), (0, (2, 0), (-1, 1), 2)], repeated, EVEN, ENDS, ONE, 2)
        lists = ((0, [2, 0], [-1, 1], 1), (0, [0, 2], [1, -1], 1))
        self.assertGives(ONE, grown, EVEN, ENDS, lists, 1)
        self.assertGives(ONE, repeated, EVEN, (tuple(ENDS[0]),), lists, 1)
        self.assertGives(2, most_grown, EVEN, ENDS, lists)
        self.assertGives(2, most_repeated, EVEN, ENDS, lists)

    def test_the_greatest_number_of_times_and_once_more(self):
        for function in (grown, repeated):
            self.assertYes(is_exchange, EVEN, ENDS, function(EVEN, ENDS, ONE, 2))
            for many in (3, 4, GREAT):
                self.assertFails(NotGrown, {}, function, EVEN, ENDS, ONE, many)
        self.assertGives(1, most_grown, SHOPS, APART, SWAP)
        self.assertGives(1, most_repeated, SHOPS, APART, SWAP)
        self.assertFails(NotGrown, {}, grown, SHOPS, APART, SWAP, 2)
        self.assertFails(NotGrown, {}, repeated, SHOPS, APART, SWAP, 2)

    def test_houses_of_a_house_plan_in_several_tuples(self):
        kind = Kind(9, 6, [(0, 6)] * 3, [(0, [])] * 3)
        plan = [[((2, 2, 2), 7), ((0, 6, 0), 2)]]
        street = Street(SHELF, [kind], 9 * 6)
        both = [(0, (2, 2, 2), (1, -1, 0), 2), (0, (2, 2, 2), (0, -1, 1), 1), (0, (0, 6, 0), (0, -1, 1), 1)]
        self.assertGives(2, most_repeated, street, plan, both)
        self.assertGives(2, most_grown, street, plan, both)
        self.assertGives(times_repeated(both, 2), repeated, street, plan, both, 2)
        self.assertFails(NotGrown, {}, repeated, street, plan, both, 3)
        self.assertGives(times_grown(both, 2), grown, street, plan, both, 2)
        self.assertFails(NotGrown, {}, grown, street, plan, both, 3)
        # One of five houses with an odd change leads no further.
        odd = [(0, (2, 2, 2), (1, -2, 1), 7)]
        self.assertGives(1, most_grown, street, plan, odd)
        self.assertGives(1, most_repeated, street, plan, odd)

    def test_both_bounds(self):
        table = Table((1, 1), (0, 0))
        street = Street(table, [Kind(5, 10, [(-7, 30), (-9, 30)], [(0, [])] * 2)], 0)
        plan = [[((5, 5), 5)]]
        self.assertGives(12, most_grown, street, plan, [(0, (5, 5), (-1, 1), 1)])
        self.assertGives(14, most_grown, street, plan, [(0, (5, 5), (1, -1), 1)])
        self.assertGives(4, most_grown, street, plan, [(0, (5, 5), (-3, 3), 1)])
        self.assertGives(4, most_grown, street, plan, [(0, (5, 5), (3, -3), 1), (0, (5, 5), (-3, 3), 1)])
        self.assertGives(5, most_repeated, street, plan, [(0, (5, 5), (-12, 12), 1)])
        self.assertGives(2, most_repeated, street, plan, [(0, (5, 5), (3, -3), 1), (0, (5, 5), (-3, 3), 1)])

    def test_twenty_digits(self):
        kind = Kind(2 * 10 ** 20, 10 ** 20, [(0, 10 ** 20)] * 2, [(0, []), (1, [(4, 3)])])
        street = Street(Table((1, 1), (0, 1)), [kind], 10 ** 40)
        plan = [[((0, 10 ** 20), 10 ** 20), ((10 ** 20, 0), 10 ** 20)]]
        exchange = [(0, (0, 10 ** 20), (3, -3), 7), (0, (10 ** 20, 0), (-3, 3), 7)]
        self.assertGives(10 ** 20 // 3, most_grown, street, plan, exchange)
        self.assertGives(10 ** 20 // 7, most_repeated, street, plan, exchange)
        for many in (1, 10 ** 20 // 7):
            self.assertGives(times_repeated(exchange, many), repeated, street, plan, exchange, many)
        self.assertFails(NotGrown, {}, repeated, street, plan, exchange, 10 ** 20 // 7 + 1)
        for many in (1, 10 ** 20 // 3):
            self.assertGives(times_grown(exchange, many), grown, street, plan, exchange, many)
        self.assertFails(NotGrown, {}, grown, street, plan, exchange, 10 ** 20 // 3 + 1)

    def test_by_the_words(self):
        source = random.Random(61)
        more = 0
        for street, plans in small_streets(61, 400):
            plan = source.choice(plans)
            exchange = some_exchange(source, street, plan, plans)
            if exchange:
                for scaled, most, function in ((times_grown, most_grown, grown), (times_repeated, most_repeated, repeated)):
                    times = [many for many in range(1, 8) if plain_is_exchange(street, plan, scaled(exchange, many))]
                    self.assertEqual(times, list(range(1, len(times) + 1)))
                    self.assertGives(len(times), most, street, plan, exchange)
                    more += len(times) > 1
                    for many in range(1, 8):
                        if many in times:
                            self.assertGives(scaled(exchange, many), function, street, plan, exchange, many)
                        else:
                            self.assertFails(NotGrown, {}, function, street, plan, exchange, many)
        self.assertGreater(more, 30)

    def test_savings(self):
        source = random.Random(62)
        less = 0
        for street, plans in small_streets(62, 150):
            plan = source.choice(plans)
            exchange = some_exchange(source, street, plan, plans)
            if exchange:
                once = saving(street, plan, exchange)
                for many in range(1, most_repeated(street, plan, exchange) + 1):
                    self.assertEqual(saving(street, plan, repeated(street, plan, exchange, many)), many * once)
                for many in range(1, most_grown(street, plan, exchange) + 1):
                    found = saving(street, plan, grown(street, plan, exchange, many))
                    self.assertLessEqual(found, many * once)
                    less += found < many * once
                    if found > 0:
                        self.assertYes(is_bettering, street, plan, exchange)
        self.assertGreater(less, 5)

    def test_errors(self):
        for function in FUNCTIONS:
            rest = (1,) if function in (grown, repeated) else ()
            wrong = (None,) if function in (grown, repeated) else ()
            for value in NO_STREETS:
                self.assertInvalid(InvalidStreet, value, function, value, None, None, *wrong)
            for value in NO_PLANS:
                self.assertInvalid(InvalidPlan, value, function, SHOPS, value, None, *wrong)
            for value in NO_EXCHANGES + [[], ()]:
                self.assertInvalid(InvalidExchange, value, function, SHOPS, APART, value, *rest)
                self.assertInvalid(InvalidExchange, value, function, SHOPS, APART, value, *wrong)
        for function in (grown, repeated):
            for value in NO_TIMES:
                self.assertInvalid(InvalidMany, value, function, SHOPS, APART, SWAP, value)


if __name__ == "__main__":
    unittest.main()
