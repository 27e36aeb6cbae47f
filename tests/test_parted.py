"""Partings and how few parts they have [24], [25]."""

import itertools
import random
import unittest

from likestreets import parted
from likestreets.errors import InvalidChange, InvalidTable
from likestreets.least import is_least
from likestreets.parted import few_parts, is_parting, parting
from likestreets.rows import fits, mirrored, plus, times
from likestreets.tables import Table
from helpers import (
    GREAT, NO_CHANGES, NO_INTEGERS, NO_LISTS, NO_OWN, NO_ROWS, NO_TABLES, ONE_FREE, RANK_0, SHELF, TABLE_196,
    TABLE_204, TWO_WAYS, Case, plain_few, plain_least, some_owns,
)

HALF = [((1, -1, 0), 2), ([0, -1, 1], 1)]


class TestParting(Case):
    def test_interface(self):
        self.assertDefinedIn(parted, "parting", "is_parting", "few_parts")
        self.assertParameters(parting, "table", "change")
        self.assertParameters(is_parting, "table", "change", "value")
        self.assertParameters(few_parts, "table", "change")

    def check_parting(self, table, change):
        """What is told is a parting by the words of the document, of the kinds that it tells."""
        before = list(change)
        found = parting(table, change)
        self.assertEqual(list(change), before)
        self.assertIs(type(found), list)
        self.assertLessEqual(len(found), 1000)
        total = (0,) * table.columns
        rows = []
        for entry in found:
            self.assertIs(type(entry), tuple)
            row, many = entry
            self.assertTupleOfIntegers(row)
            self.assertIs(type(many), int)
            self.assertGreaterEqual(many, 1)
            self.assertYes(is_least, table, row)
            self.assertYes(fits, row, change)
            self.assertNotIn(row, rows)
            rows.append(row)
            total = plus(total, times(row, many))
        self.assertEqual(total, tuple(change))
        self.assertEqual(parting(table, change), found)
        self.assertYes(is_parting, table, change, found)
        parting(table, change).append(7)
        self.assertEqual(parting(table, change), found)

    def test_partings(self):
        self.check_parting(SHELF, [2, -3, 1])
        self.check_parting(SHELF, (GREAT, -2 * GREAT, GREAT))
        self.check_parting(TWO_WAYS, (3, 3, -3))
        self.check_parting(TWO_WAYS, (GREAT, GREAT, -GREAT))
        self.check_parting(NO_OWN, (GREAT, -1, 0))
        self.check_parting(ONE_FREE, [-5])
        self.check_parting(TABLE_196, (0, 4 * GREAT, 0, -3 * GREAT, 0, 0))
        for own in some_owns(1, 3, 10) + some_owns(2, 4, 4) + [(4, 3, 2)]:
            for row in itertools.product((-3, -1, 0, 2, 4, 60), repeat=len(own)):
                if sum([a * b for a, b in zip(own, row)]) == 0:
                    self.check_parting(Table(own, own), list(row))

    def test_partings_of_nought_and_of_least_changes(self):
        self.assertGives([], parting, SHELF, (0, 0, 0))
        self.assertGives([], parting, RANK_0, [0])
        self.assertGives([((1, -1, 0), 1)], parting, SHELF, [1, -1, 0])
        self.assertGives([((-1,), GREAT)], parting, ONE_FREE, [-GREAT])
        for own in ((4, 3, 2, 1), (0, 1, 2)):
            for row in plain_least(own):
                self.assertGives([(row, 1)], parting, Table(own, own), row)

    def test_errors(self):
        for value in NO_TABLES:
            self.assertInvalid(InvalidTable, value, parting, value, None)
            self.assertInvalid(InvalidTable, value, is_parting, value, None, None)
            self.assertInvalid(InvalidTable, value, few_parts, value, None)
        for value in NO_CHANGES:
            self.assertInvalid(InvalidChange, value, parting, SHELF, value)
            self.assertInvalid(InvalidChange, value, is_parting, SHELF, value, None)
            self.assertInvalid(InvalidChange, value, few_parts, SHELF, value)
        for value in NO_LISTS + [[1, 0, 0, 0, 0, 0], [0]]:
            self.assertInvalid(InvalidChange, value, parting, TABLE_204, value)
            self.assertInvalid(InvalidChange, value, few_parts, TABLE_204, value)
        self.assertTooMany("changes", 200, parting, TABLE_204, [0] * 6)
        self.assertTooMany("changes", 200, parting, TABLE_204, (0, 1, -1, 0, 0, 0))


class TestIsParting(Case):
    def test_is_parting(self):
        self.assertYes(is_parting, SHELF, [2, -3, 1], HALF)
        self.assertYes(is_parting, SHELF, (2, -3, 1), tuple(HALF[::-1]))
        self.assertNo(is_parting, SHELF, [1, -1, 0], [((1, 0, -1), 1), ((0, -1, 1), 1)])
        self.assertYes(is_parting, TWO_WAYS, (3, 3, -3), [((1, 1, -1), 3)])
        self.assertYes(is_parting, TWO_WAYS, (3, 3, -3), [((3, 0, -1), 1), ([0, 3, -2], 1)])
        self.assertNo(is_parting, TWO_WAYS, (3, 3, -3), [((1, 1, -1), 3), ((3, 0, -1), 0)])
        self.assertNo(is_parting, TWO_WAYS, (3, 3, -3), [((1, 1, -1), 4), ((3, 0, -1), -1), ((0, 3, -2), 1)])
        self.assertYes(is_parting, SHELF, (0, 0, 0), [])
        self.assertYes(is_parting, SHELF, (0, 0, 0), ())
        self.assertNo(is_parting, SHELF, (1, -1, 0), [])
        self.assertNo(is_parting, SHELF, (2, -2, 0), [((1, -1, 0), 1)])
        self.assertNo(is_parting, SHELF, (2, -2, 0), [((1, -1, 0), 3)])
        self.assertNo(is_parting, SHELF, (2, -2, 0), [((1, -1, 0), 1), ((1, -1, 0), 1)])
        self.assertNo(is_parting, SHELF, (2, -2, 0), [((1, -1, 0), 1), ([1, -1, 0], 1)])
        self.assertNo(is_parting, SHELF, (2, -2, 0), [((2, -2, 0), 1)])
        self.assertNo(is_parting, SHELF, (1, -1, 0), [((1, -1, 0), 1), ((0, 0, 0), 1)])
        self.assertNo(is_parting, SHELF, (1, -1, 0), [((1, -1, 0), 1), ((0, 1, -1), 0)])
        self.assertNo(is_parting, SHELF, (1, -1, 0), [((-1, 1, 0), -1)])
        self.assertNo(is_parting, SHELF, (1, -1, 0), [((1, -1), 1)])
        self.assertYes(is_parting, SHELF, (GREAT, -GREAT, 0), [((1, -1, 0), GREAT)])
        self.assertYes(is_parting, RANK_0, [0], [])
        self.assertNo(is_parting, RANK_0, [0], [((0,), 1)])
        self.assertYes(is_parting, TABLE_204, (0, 1, -1, 0, 0, 0), [([0, 1, -1, 0, 0, 0], 1)])

    def test_is_parting_of_any_value(self):
        for value in NO_LISTS:
            self.assertNo(is_parting, SHELF, (1, -1, 0), value)
            self.assertNo(is_parting, SHELF, (0, 0, 0), value)
        for value in NO_INTEGERS + [0, -1, 2]:
            self.assertNo(is_parting, SHELF, (1, -1, 0), [((1, -1, 0), value)])
        for value in NO_ROWS:
            self.assertNo(is_parting, SHELF, (1, -1, 0), [(value, 1)])
            self.assertNo(is_parting, SHELF, (0, 0, 0), [(value, 1)])
        for value in NO_LISTS + [[], (), [(1, -1, 0), 1], ((1, -1, 0),), ((1, -1, 0), 1, 1), (1, (1, -1, 0))]:
            self.assertNo(is_parting, SHELF, (1, -1, 0), [value])
            self.assertNo(is_parting, SHELF, (2, -2, 0), [((1, -1, 0), 1), value])
            self.assertNo(is_parting, SHELF, (0, 0, 0), (value,))
        self.assertNo(is_parting, SHELF, (1, -1, 0), [((True, -1, 0), 1)])
        self.assertNo(is_parting, SHELF, (1, -1, 0), [((1, -1, False), 1)])
        self.assertNo(is_parting, SHELF, (1, -1, 0), [((1, -1, 0), True)])
        self.assertNo(is_parting, SHELF, (1, -1, 0), ((1, -1, 0), 1))

    def test_changed_partings_are_none(self):
        source = random.Random(1)
        for own in some_owns(3, 3, 15):
            table, known = Table(own, own), plain_least(own)
            for _ in range(10 if known else 0):
                change = plus(*[times(source.choice(known), source.randint(1, 3)) for _ in range(2)])
                found = parting(table, change)
                self.assertYes(is_parting, table, change, [(list(row), many) for row, many in found])
                for at in range(len(found)):
                    row, many = found[at]
                    self.assertNo(is_parting, table, change, found[:at] + found[at + 1:])
                    self.assertNo(is_parting, table, change, found[:at] + [(row, many + 1)] + found[at + 1:])
                    self.assertNo(is_parting, table, change, found[:at] + [(mirrored(row), many)] + found[at + 1:])


class TestFewParts(Case):
    def test_few_parts(self):
        self.assertGives(3, few_parts, SHELF, [2, -3, 1])
        self.assertGives(2, few_parts, TWO_WAYS, [3, 3, -3])
        self.assertGives(0, few_parts, SHELF, (0, 0, 0))
        self.assertGives(0, few_parts, RANK_0, (0,))
        self.assertGives(1, few_parts, SHELF, (0, -1, 1))
        self.assertGives(43, few_parts, SHELF, (43, -43, 0))
        self.assertGives(7, few_parts, NO_OWN, (2, -4, 1))

    def test_few_parts_by_levels(self):
        for own in some_owns(4, 2, 10) + some_owns(5, 3, 12) + [(1, 2, 3), (4, 3, 2)]:
            for row in itertools.product((-3, -2, 0, 1, 5), repeat=len(own)):
                if sum([a * b for a, b in zip(own, row)]) == 0:
                    wanted = plain_few(own, row)
                    self.assertGives(wanted, few_parts, Table(own, own), list(row))
                    self.assertEqual(few_parts(Table(own, own), mirrored(row)), wanted)
                    self.assertEqual(wanted == 1, is_least(Table(own, own), row))
                    told = sum([many for part, many in parting(Table(own, own), row)])
                    self.assertLessEqual(wanted, told)

    def test_choices(self):
        self.assertGives(1999, few_parts, ONE_FREE, [-1999])
        self.assertTooMany("choices", 2000, few_parts, ONE_FREE, [2000])
        self.assertGives(88, few_parts, Table((0, 0), (0, 1)), (39, -49))
        self.assertTooMany("choices", 2000, few_parts, NO_OWN, (2, 22, 28))
        self.assertTooMany("choices", 2000, few_parts, SHELF, (44, -44, 0))
        self.assertTooMany("choices", 2000, few_parts, SHELF, (GREAT, 0, -GREAT))

    def test_changes_come_ahead_of_choices(self):
        self.assertTooMany("changes", 200, few_parts, TABLE_204, [0] * 6)
        self.assertTooMany("changes", 200, few_parts, TABLE_204, (0, GREAT, -GREAT, 0, 0, 0))
        self.assertTooMany("choices", 2000, few_parts, TABLE_196, (0, GREAT, -GREAT, 0, 0, 0))


if __name__ == "__main__":
    unittest.main()
