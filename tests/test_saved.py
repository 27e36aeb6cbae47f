"""What exchanges save [53]."""

import random
import unittest

from likestreets import saved as module
from likestreets.errors import InvalidExchange, InvalidPlan, InvalidStreet
from likestreets.exchanges import done, turned_back
from likestreets.kinds import Kind
from likestreets.plans import layout_price
from likestreets.saved import is_bettering, saving
from likestreets.streets import Street
from likestreets.tables import Table
from helpers import (
    APART, NO_EXCHANGES, NO_PLANS, NO_STREETS, SHELF, SHOPS, SWAP, Case, plain_cost, plain_done, small_streets, some_exchange,
)

GIANT = Street(SHELF, [Kind(2 * 10 ** 20, 1, [(0, 1)] * 3, [(0, []), (1, []), (10 ** 20, [(-1, 3)])])], 2 * 10 ** 20)
HALVES = [[((0, 0, 1), 10 ** 20), ((1, 0, 0), 10 ** 20)]]


class TestSaved(Case):
    def test_interface(self):
        self.assertDefinedIn(module, "saving", "is_bettering")
        self.assertParameters(saving, "street", "plan", "exchange")
        self.assertParameters(is_bettering, "street", "plan", "value")
        self.assertEqual(saving(exchange=SWAP, plan=APART, street=SHOPS), 3)
        self.assertIs(is_bettering(value=SWAP, plan=APART, street=SHOPS), True)

    def test_told(self):
        self.assertGives(3, saving, SHOPS, APART, SWAP)
        self.assertGives(3, saving, SHOPS, ((([1, 0, 0], 1), ((0, 1, 0), 1), ((0, 0, 1), 1)),), tuple(SWAP[::-1]))
        self.assertGives(0, saving, SHOPS, APART, [])
        self.assertGives(-3, saving, SHOPS, [[((0, 1, 0), 3)]], turned_back(SHOPS, APART, SWAP))
        self.assertYes(is_bettering, SHOPS, APART, SWAP)
        self.assertYes(is_bettering, SHOPS, APART, tuple(SWAP))
        self.assertNo(is_bettering, SHOPS, APART, [])
        self.assertNo(is_bettering, SHOPS, [[((0, 1, 0), 3)]], turned_back(SHOPS, APART, SWAP))
        # What leads to a plan that costs as much saves nothing.
        turn = [(0, (0, 0, 1), (1, 0, -1), 1), (0, (1, 0, 0), (-1, 0, 1), 1)]
        self.assertGives(0, saving, SHOPS, APART, turn)
        self.assertNo(is_bettering, SHOPS, APART, turn)

    def test_bent_prices(self):
        street = Street(Table((1, 1), (0, 0)), [Kind(2, 4, [(0, 4)] * 2, [(1, [(1, 2), (2, 5)]), (0, [(3, 7)])])], 0)
        plan = [[((4, 0), 1), ((0, 4), 1)]]
        self.assertGives((4 + 6 + 10) - (2 + 2), saving, street, plan, [(0, (4, 0), (-2, 2), 1)])
        self.assertGives(7 - 1, saving, street, plan, [(0, (0, 4), (1, -1), 1)])
        self.assertGives((4 + 6 + 10) - 7, saving, street, plan, [(0, (4, 0), (-4, 4), 1)])
        self.assertGives(7 - (4 + 6 + 10), saving, street, plan, [(0, (0, 4), (4, -4), 1)])

    def test_twenty_digits(self):
        moves = [(0, (0, 0, 1), (0, 1, -1)), (0, (1, 0, 0), (-1, 1, 0))]
        # A house with one of the dearest costs two steps behind the bend, one without any costs one.
        for many in (1, 10 ** 20):
            exchange = [move + (many,) for move in moves]
            self.assertGives(many * (10 ** 20 + 6 - (1 + 3) + 3 - (1 + 3)), saving, GIANT, HALVES, exchange)
            self.assertYes(is_bettering, GIANT, HALVES, exchange)

    def test_by_what_plans_cost(self):
        source = random.Random(17)
        signs = {}
        for street, plans in small_streets(41, 80):
            for _ in range(5):
                plan = source.choice(plans)
                exchange = some_exchange(source, street, plan, plans)
                wanted = plain_cost(street, plan) - plain_cost(street, plain_done(plan, exchange))
                self.assertGives(wanted, saving, street, plan, exchange)
                self.assertEqual(is_bettering(street, plan, exchange), wanted > 0)
                behind = done(street, plan, exchange)
                self.assertEqual(layout_price(street, plan) - layout_price(street, behind), wanted)
                self.assertGives(-wanted, saving, street, behind, turned_back(street, plan, exchange))
                signs[(wanted > 0) - (wanted < 0)] = True
        self.assertEqual(len(signs), 3)

    def test_any_value(self):
        for value in NO_EXCHANGES:
            self.assertNo(is_bettering, SHOPS, APART, value)

    def test_errors(self):
        for value in NO_STREETS:
            self.assertInvalid(InvalidStreet, value, saving, value, None, None)
            self.assertInvalid(InvalidStreet, value, is_bettering, value, None, None)
        for value in NO_PLANS:
            self.assertInvalid(InvalidPlan, value, saving, SHOPS, value, None)
            self.assertInvalid(InvalidPlan, value, is_bettering, SHOPS, value, SWAP)
        for value in NO_EXCHANGES:
            self.assertInvalid(InvalidExchange, value, saving, SHOPS, APART, value)


if __name__ == "__main__":
    unittest.main()
