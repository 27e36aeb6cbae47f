"""Pulls [31]."""

import random
import unittest

from likestreets import pulls as module
from likestreets.errors import InvalidNumber, InvalidTable
from likestreets.pulls import pulls, with_pull
from likestreets.tables import Table
from helpers import (
    GREAT, NO_INTEGERS, NO_OWN, NO_TABLES, ONE_FREE, RANK_0, SHELF, TABLE_196, TABLE_204, Case, plain_least,
    plain_pulls, plain_worth,
)


class TestPulls(Case):
    def test_interface(self):
        self.assertDefinedIn(module, "pulls", "with_pull")
        self.assertParameters(pulls, "table")
        self.assertParameters(with_pull, "table", "number")

    def test_pulls(self):
        self.assertGives([-2, -1, 1, 2], pulls, SHELF)
        self.assertGives([-3, 3], pulls, Table((2, 3), (1, 0)))
        self.assertGives([0], pulls, Table((1, 1), (1, 1)))
        self.assertGives([], pulls, RANK_0)
        self.assertGives([-2, 2], pulls, ONE_FREE)
        self.assertGives([-2, -1, 0, 1, 2], pulls, NO_OWN)
        self.assertGives([0], pulls, TABLE_196)
        self.assertGives([-28, 28], pulls, Table((3, 4), (4, -4)))

    def test_with_pull(self):
        self.assertGives([(-1, 1, 0), (0, -1, 1)], with_pull, SHELF, 1)
        self.assertGives([], with_pull, SHELF, 5)
        self.assertGives([], with_pull, SHELF, 0)
        self.assertGives([(0, 0, -1), (0, 0, 1)], with_pull, NO_OWN, 0)
        self.assertGives([(0, -1, 0)], with_pull, NO_OWN, 2)
        self.assertGives([], with_pull, SHELF, GREAT)
        self.assertGives([], with_pull, SHELF, -GREAT)
        self.assertGives([], with_pull, RANK_0, 0)

    def test_by_all_least_changes(self):
        source = random.Random(1)
        for _ in range(60):
            columns = source.randint(1, 4)
            table = Table(*[[source.randint(-4, 4) for _ in range(columns)] for _ in range(2)])
            known, found = plain_least(table.own), plain_pulls(table)
            self.assertGives(found, pulls, table)
            self.assertEqual(found, [-number for number in found[::-1]])
            for number in found + [29, 0]:
                wanted = [row for row in known if plain_worth(row, table.common) == number]
                self.assertGives(wanted, with_pull, table, number)

    def test_errors(self):
        for value in NO_TABLES:
            self.assertInvalid(InvalidTable, value, pulls, value)
            self.assertInvalid(InvalidTable, value, with_pull, value, None)
        for value in NO_INTEGERS:
            self.assertInvalid(InvalidNumber, value, with_pull, SHELF, value)
            self.assertInvalid(InvalidNumber, value, with_pull, TABLE_204, value)
        self.assertTooMany("changes", 200, pulls, TABLE_204)
        self.assertTooMany("changes", 200, with_pull, TABLE_204, 0)


if __name__ == "__main__":
    unittest.main()
