"""Exchanges, done and turned back, and from plan to plan [7], [51], [52]."""

import itertools
import random
import unittest

from likestreets import exchanges as module
from likestreets.errors import InvalidExchange, InvalidPlan, InvalidStreet
from likestreets.exchanges import done, exchange_to, is_exchange, touched, turned_back
from likestreets.kinds import Kind
from likestreets.plans import apart, is_plan, told_plan
from likestreets.streets import Street
from likestreets.tables import Table
from helpers import (
    APART, BACK, MOVE, NO_CHANGES, NO_EXCHANGES, NO_INTEGERS, NO_PLANS, NO_ROWS, NO_STREETS, SHELF, SHOPS, SWAP, Case,
    plain_cost, plain_done, plain_is_exchange, plain_moves, plain_plans, small_streets, some_exchange,
)

TWO_KINDS = Street(SHELF, [Kind(4, 2, [(0, 2)] * 3, [(0, [])] * 3), Kind(2, 2, [(0, 2)] * 3, [(0, [])] * 3)], 12)
BOTH = [[((0, 2, 0), 3), ((1, 0, 1), 1)], [((0, 2, 0), 2)]]
GIANT = Street(SHELF, [Kind(2 * 10 ** 20, 1, [(0, 1)] * 3, [(0, [])] * 3)], 2 * 10 ** 20)
HALVES = [[((0, 0, 1), 10 ** 20), ((1, 0, 0), 10 ** 20)]]


class TestIsExchange(Case):
    def test_interface(self):
        self.assertDefinedIn(module, "is_exchange", "touched", "done", "turned_back", "exchange_to")
        self.assertParameters(is_exchange, "street", "plan", "value")
        for function in (touched, done, turned_back):
            self.assertParameters(function, "street", "plan", "exchange")
        self.assertParameters(exchange_to, "street", "plan", "target")
        self.assertEqual(touched(exchange=SWAP, plan=APART, street=SHOPS), 2)
        self.assertEqual(done(exchange=SWAP, plan=APART, street=SHOPS), [[((0, 1, 0), 3)]])
        self.assertEqual(exchange_to(target=APART, plan=APART, street=SHOPS), [])
        self.assertIs(is_exchange(value=SWAP, plan=APART, street=SHOPS), True)

    def test_yes(self):
        for value in (SWAP, SWAP[::-1], tuple(SWAP), [], (), [(0, [0, 0, 1], [0, 1, -1], 1), (0, [1, 0, 0], (-1, 1, 0), 1)],
                      [(0, (0, 0, 1), (1, 0, -1), 1), (0, (1, 0, 0), (-1, 0, 1), 1)]):
            self.assertYes(is_exchange, SHOPS, APART, value)
            self.assertYes(is_exchange, SHOPS, tuple([tuple(share) for share in APART]), value)
        self.assertYes(is_exchange, SHOPS, [[((0, 1, 0), 3)]], [(0, (0, 1, 0), (1, -1, 0), 1), (0, (0, 1, 0), (0, -1, 1), 1)])

    def test_no(self):
        for value in NO_EXCHANGES:
            self.assertNo(is_exchange, SHOPS, APART, value)
        for value in NO_INTEGERS + [-1, 1, 2]:
            self.assertNo(is_exchange, SHOPS, APART, [(value, (0, 0, 1), (0, 1, -1), 1), BACK])
        for value in NO_INTEGERS + [0, -1, 2]:
            self.assertNo(is_exchange, SHOPS, APART, [MOVE, (0, (1, 0, 0), (-1, 1, 0), value)])
        for value in NO_ROWS + [(0, 0, 0), (0, 0, 1, 0), (0, 1), (2, 0, -1)]:
            self.assertNo(is_exchange, SHOPS, APART, [(0, value, (0, 1, -1), 1), BACK])
        for value in NO_CHANGES + [(0, 0, 0), (0, 2, -2), (0, 1, -1, 0)]:
            self.assertNo(is_exchange, SHOPS, APART, [(0, (0, 0, 1), value, 1), BACK])

    def test_all_houses_of_a_house_plan_and_one_more(self):
        for many in (1, 2, 3):
            value = [(0, (0, 2, 0), (1, -2, 1), many)]
            self.assertYes(is_exchange, TWO_KINDS, BOTH, value)
            self.assertYes(is_exchange, TWO_KINDS, BOTH, value + [(1, (0, 2, 0), (1, -2, 1), 2)])
            self.assertNo(is_exchange, TWO_KINDS, BOTH, value + [(1, (0, 2, 0), (1, -2, 1), 3)])
        self.assertNo(is_exchange, TWO_KINDS, BOTH, [(0, (0, 2, 0), (1, -2, 1), 4)])
        up, down = (0, (0, 2, 0), (0, -1, 1), 1), (0, (0, 2, 0), (1, -1, 0), 1)
        self.assertYes(is_exchange, TWO_KINDS, BOTH, [up, down, (0, (0, 2, 0), (1, -2, 1), 1)])
        self.assertNo(is_exchange, TWO_KINDS, BOTH, [up, down, (0, (0, 2, 0), (1, -2, 1), 2)])
        self.assertYes(is_exchange, TWO_KINDS, BOTH, [up, (1, (0, 2, 0), (1, -1, 0), 1)])

    def test_pulls_must_come_to_0(self):
        self.assertYes(is_exchange, TWO_KINDS, BOTH, [(0, (0, 2, 0), (0, -1, 1), 2), (1, (0, 2, 0), (2, -2, 0), 1)])
        self.assertNo(is_exchange, TWO_KINDS, BOTH, [(0, (0, 2, 0), (0, -1, 1), 2), (1, (0, 2, 0), (1, -1, 0), 1)])
        self.assertNo(is_exchange, TWO_KINDS, BOTH, [(0, (0, 2, 0), (0, -1, 1), 1)])

    def test_by_the_words(self):
        source = random.Random(5)
        found = 0
        for street, plans in small_streets(31, 80):
            plan = source.choice(plans)
            moves = plain_moves(street, plan)
            for size in (1, 2, 3):
                some = list(itertools.combinations_with_replacement(moves, size))
                for value in source.sample(some, min(40, len(some))):
                    value = [entry[:3] + (source.choice([1, 1, 1, 2, 3]),) for entry in value]
                    wanted = plain_is_exchange(street, plan, value)
                    self.assertEqual(is_exchange(street, plan, value), wanted)
                    found += wanted
        self.assertGreater(found, 100)

    def test_twenty_digits(self):
        up, down = (0, (0, 0, 1), (0, 1, -1)), (0, (1, 0, 0), (-1, 1, 0))
        for many in (1, 10 ** 20 - 1, 10 ** 20):
            self.assertYes(is_exchange, GIANT, HALVES, [up + (many,), down + (many,)])
            self.assertGives(2 * many, touched, GIANT, HALVES, [up + (many,), down + (many,)])
        self.assertNo(is_exchange, GIANT, HALVES, [up + (10 ** 20 + 1,), down + (10 ** 20 + 1,)])
        self.assertNo(is_exchange, GIANT, HALVES, [up + (10 ** 20,), down + (10 ** 20 - 1,)])
        self.assertGives([[((0, 1, 0), 2 * 10 ** 20)]], done, GIANT, HALVES, [up + (10 ** 20,), down + (10 ** 20,)])

    def test_kinds_without_houses(self):
        street = Street(SHELF, [Kind(0, 9, [(0, 1)] * 3, [(0, [])] * 3)] + SHOPS.kinds(), 3)
        self.assertYes(is_exchange, street, [[]] + APART, [(1,) + entry[1:] for entry in SWAP])
        self.assertNo(is_exchange, street, [[]] + APART, SWAP)
        nobody = Street(SHELF, [Kind(0, 9, [(0, 1)] * 3, [(0, [])] * 3)], 0)
        self.assertYes(is_exchange, nobody, [[]], [])
        self.assertGives([[]], done, nobody, [[]], [])
        self.assertGives([], exchange_to, nobody, [[]], ((),))


class TestDone(Case):
    def test_touched(self):
        self.assertGives(2, touched, SHOPS, APART, SWAP)
        self.assertGives(0, touched, SHOPS, APART, [])
        self.assertGives(5, touched, TWO_KINDS, BOTH, ((0, (0, 2, 0), (1, -2, 1), 3), (1, [0, 2, 0], [1, -2, 1], 2)))

    def test_done(self):
        self.assertGives([[((0, 1, 0), 3)]], done, SHOPS, APART, SWAP)
        self.assertGives(APART, done, SHOPS, APART, [])
        self.assertGives(APART, done, SHOPS, ((([1, 0, 0], 1), ([0, 0, 1], 1), ([0, 1, 0], 1)),), ())
        lists = ((0, [1, 0, 0], [-1, 1, 0], 1), (0, [0, 0, 1], [0, 1, -1], 1))
        self.assertGives([[((0, 1, 0), 3)]], done, SHOPS, [[([0, 0, 1], 1), ([0, 1, 0], 1), ([1, 0, 0], 1)]], lists)
        self.assertGives([(0, (0, 1, 0), (0, -1, 1), 1), (0, (0, 1, 0), (1, -1, 0), 1)], turned_back, SHOPS, APART, lists)
        # Houses come to a house plan that others leave at once.
        self.assertGives([[((0, 0, 1), 1), ((0, 1, 0), 1), ((1, 0, 0), 1)]], done, SHOPS, APART,
                         [(0, (0, 0, 1), (0, 1, -1), 1), (0, (0, 1, 0), (1, -1, 0), 1), (0, (1, 0, 0), (-1, 0, 1), 1)])
        self.assertGives([[((1, 0, 1), 4)], [((0, 2, 0), 2)]], done, TWO_KINDS, BOTH, [(0, (0, 2, 0), (1, -2, 1), 3)])
        self.assertGives([[((0, 2, 0), 4)], [((0, 2, 0), 2)]], done, TWO_KINDS, BOTH, [(0, (1, 0, 1), (-1, 2, -1), 1)])
        self.assertGives([[((0, 2, 0), 3), ((1, 0, 1), 1)], [((0, 1, 1), 1), ((1, 1, 0), 1)]], done, TWO_KINDS, BOTH,
                         [(1, (0, 2, 0), (1, -1, 0), 1), (1, (0, 2, 0), (0, -1, 1), 1)])

    def test_done_by_the_words(self):
        source = random.Random(6)
        for street, plans in small_streets(32, 60):
            for _ in range(5):
                plan = source.choice(plans)
                exchange = some_exchange(source, street, plan, plans)
                self.assertYes(is_exchange, street, plan, exchange)
                self.assertGives(plain_done(plan, exchange), done, street, plan, exchange)
                self.assertGives(sum([entry[3] for entry in exchange]), touched, street, plan, exchange)
                self.assertIn(done(street, plan, exchange), plans)

    def test_turned_back(self):
        self.assertGives([(0, (0, 1, 0), (0, -1, 1), 1), (0, (0, 1, 0), (1, -1, 0), 1)], turned_back, SHOPS, APART, SWAP)
        self.assertGives([], turned_back, SHOPS, APART, ())
        source = random.Random(7)
        for street, plans in small_streets(33, 60):
            for _ in range(5):
                plan = source.choice(plans)
                exchange = some_exchange(source, street, plan, plans)
                behind = done(street, plan, exchange)
                back = turned_back(street, plan, exchange)
                self.assertEqual(back, sorted(back))
                self.assertYes(is_exchange, street, behind, back)
                self.assertGives(plan, done, street, behind, back)
                self.assertEqual(touched(street, behind, back), touched(street, plan, exchange))
                self.assertGives(sorted(exchange), turned_back, street, behind, back)

    def test_errors(self):
        for function in (touched, done, turned_back):
            for value in NO_STREETS:
                self.assertInvalid(InvalidStreet, value, function, value, None, None)
            for value in NO_PLANS:
                self.assertInvalid(InvalidPlan, value, function, SHOPS, value, SWAP)
                self.assertInvalid(InvalidPlan, value, function, SHOPS, value, None)
            for value in NO_EXCHANGES:
                self.assertInvalid(InvalidExchange, value, function, SHOPS, APART, value)
            self.assertInvalid(InvalidExchange, SWAP, function, SHOPS, [[((0, 1, 0), 3)]], SWAP)
        for value in NO_STREETS:
            self.assertInvalid(InvalidStreet, value, is_exchange, value, None, None)
        for value in NO_PLANS:
            self.assertInvalid(InvalidPlan, value, is_exchange, SHOPS, value, SWAP)
            self.assertInvalid(InvalidPlan, value, is_exchange, SHOPS, value, None)


class TestExchangeTo(Case):
    def check(self, street, plan, target):
        found = exchange_to(street, plan, target)
        self.assertIs(type(found), list)
        for entry in found:
            self.assertIs(type(entry), tuple)
            self.assertTupleOfIntegers(entry[1])
            self.assertTupleOfIntegers(entry[2])
        self.assertYes(is_exchange, street, plan, found)
        self.assertEqual(done(street, plan, found), told_plan(street, target))
        self.assertEqual(touched(street, plan, found), apart(street, plan, target))
        self.assertGives(found[:], exchange_to, street, plan, target)
        return found

    def test_told(self):
        self.assertEqual(sorted(self.check(SHOPS, APART, [[((0, 1, 0), 3)]])), SWAP)
        self.assertEqual(self.check(SHOPS, APART, [tuple(APART[0][::-1])]), [])
        self.check(GIANT, HALVES, [[((0, 1, 0), 2 * 10 ** 20)]])
        self.check(GIANT, [[((0, 1, 0), 2 * 10 ** 20)]], HALVES)
        self.check(GIANT, HALVES, [[((0, 0, 1), 5), ((0, 1, 0), 2 * 10 ** 20 - 10), ((1, 0, 0), 5)]])
        self.check(TWO_KINDS, BOTH, [[((1, 0, 1), 4)], [([0, 1, 1], 1), ([1, 1, 0], 1)]])

    def test_all_pairs(self):
        source = random.Random(9)
        for street, plans in small_streets(34, 60):
            for _ in range(6):
                plan, target = source.choice(plans), source.choice(plans)
                found = self.check(street, plan, target)
                self.assertEqual(found == [], plan == target)

    def test_few_tuples(self):
        kinds = [Kind(900, 30, [(0, 30)] * 2, [(0, [])] * 2)]
        street = Street(Table((1, 1), (0, 0)), kinds, 0)
        plan = [[((number, 30 - number), 60) for number in range(15)]]
        target = [[((30 - number, number), 90) for number in range(10)]]
        self.assertLess(len(self.check(street, plan, target)), 25)

    def test_errors(self):
        for value in NO_STREETS:
            self.assertInvalid(InvalidStreet, value, exchange_to, value, None, None)
        for value in NO_PLANS:
            self.assertInvalid(InvalidPlan, value, exchange_to, SHOPS, value, APART)
            self.assertInvalid(InvalidPlan, value, exchange_to, SHOPS, value, None)
            self.assertInvalid(InvalidPlan, value, exchange_to, SHOPS, APART, value)


class TestHelpers(Case):
    def test_plans(self):
        self.assertTrue(is_plan(SHOPS, APART) and is_plan(TWO_KINDS, BOTH) and is_plan(GIANT, HALVES))
        self.assertEqual(sorted({plain_cost(SHOPS, plan) for plan in plain_plans(SHOPS)}), [3, 6])


if __name__ == "__main__":
    unittest.main()
