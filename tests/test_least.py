"""Least changes, what is within a change, choices [5], [21], [22], [23]."""

import itertools
import unittest

from likestreets import least
from likestreets.errors import InvalidChange, InvalidTable
from likestreets.least import fitting, inner, is_least, least_changes
from likestreets.rows import fits, length_of, less, mirrored, plus, times
from likestreets.tables import Table, is_change
from helpers import (
    GREAT, NO_CHANGES, NO_LISTS, NO_OWN, NO_ROWS, NO_TABLES, ONE_FREE, RANK_0, SHELF, TABLE_196, TABLE_204, TWO_WAYS,
    UNITS, Case, plain_fits, plain_least, plain_within, some_owns,
)


class TestLeastChanges(Case):
    def test_interface(self):
        self.assertDefinedIn(least, "is_least", "least_changes", "inner", "fitting")
        self.assertParameters(is_least, "table", "value")
        self.assertParameters(least_changes, "table")
        self.assertParameters(inner, "table", "change")
        self.assertParameters(fitting, "table", "change")

    def test_told_ones(self):
        six = [(-1, 0, 1), (-1, 1, 0), (0, -1, 1), (0, 1, -1), (1, -1, 0), (1, 0, -1)]
        self.assertGives(six, least_changes, SHELF)
        self.assertGives(UNITS, least_changes, NO_OWN)
        self.assertGives([], least_changes, RANK_0)
        self.assertGives([(-1,), (1,)], least_changes, ONE_FREE)
        self.assertGives([(-3, 2), (3, -2)], least_changes, Table([2, 3], [1, 1]))
        self.assertGives([(-3, -2), (3, 2)], least_changes, Table([2, -3], [1, 1]))
        self.assertGives([(-1, 0), (1, 0)], least_changes, Table([0, 4], [1, 1]))
        self.assertGives([(-1, 2), (1, -2)], least_changes, Table([4, 2], [1, 1]))
        self.assertGives([(-1, 1), (1, -1)], least_changes, Table([-4, -4], [1, 1]))

    def test_all_tables_of_few_columns(self):
        for columns in (1, 2):
            for own in itertools.product(range(-4, 5), repeat=columns):
                self.assertEqual(least_changes(Table(own, own)), plain_least(own))
        for own in some_owns(1, 3, 80) + some_owns(2, 4, 25) + some_owns(3, 5, 5) + [(4, 3, 2, 1, 1, 0)]:
            self.assertEqual(least_changes(Table(own, [0] * len(own))), plain_least(own))

    def test_facts(self):
        for own in some_owns(4, 2, 20) + some_owns(5, 3, 20) + some_owns(6, 4, 10) + some_owns(7, 6, 3):
            table = Table(own, own)
            greatest = max([abs(entry) for entry in own])
            found = least_changes(table)
            self.assertRows(found)
            self.assertEqual(found, sorted(found))
            for row in found:
                self.assertYes(is_change, table, row)
                self.assertIn(mirrored(row), found)
                bound = {0: 1, 1: 2}.get(greatest, 2 * greatest - 1)
                self.assertLessEqual(length_of(row), bound)

    def test_two_hundred_at_most(self):
        self.assertEqual(len(least_changes(TABLE_196)), 196)
        self.assertTooMany("changes", 200, least_changes, TABLE_204)
        self.assertTooMany("changes", 200, least_changes, Table([3, -3, 3, -4, 4, 4], [0] * 6))
        self.assertEqual(len(plain_least(TABLE_204.own)), 204)
        self.assertEqual(len(least_changes(Table((1, 1, 3, 3, 4, 4), [4] * 6))), 182)

    def test_invalid_tables(self):
        for value in NO_TABLES:
            self.assertInvalid(InvalidTable, value, least_changes, value)
            self.assertInvalid(InvalidTable, value, is_least, value, None)
            self.assertInvalid(InvalidTable, value, inner, value, None)
            self.assertInvalid(InvalidTable, value, fitting, value, None)


class TestIsLeast(Case):
    def test_is_least(self):
        self.assertNo(is_least, SHELF, [1, -2, 1])
        self.assertYes(is_least, SHELF, [1, -1, 0])
        self.assertYes(is_least, SHELF, (0, 1, -1))
        self.assertNo(is_least, SHELF, (0, 0, 0))
        self.assertNo(is_least, SHELF, (1, 0, 0))
        self.assertNo(is_least, SHELF, (2, -2, 0))
        self.assertNo(is_least, SHELF, (GREAT, -GREAT, 0))
        self.assertNo(is_least, RANK_0, [0])
        self.assertYes(is_least, ONE_FREE, [-1])
        self.assertNo(is_least, ONE_FREE, [GREAT])

    def test_is_least_of_any_value(self):
        for table in (SHELF, NO_OWN, TABLE_204):
            for value in NO_ROWS + [[1, -1], (1, -1, 0, 0), [True, -1, 0], [1, -1, False], [(1, -1, 0)]]:
                self.assertNo(is_least, table, value)
        self.assertYes(is_least, NO_OWN, [1, 0, 0])
        self.assertNo(is_least, NO_OWN, [True, 0, 0])
        self.assertNo(is_least, NO_OWN, [1, False, 0])

    def test_is_least_of_tables_with_more_than_two_hundred(self):
        known = plain_least(TABLE_204.own)
        for row in known[::7]:
            self.assertYes(is_least, TABLE_204, list(row))
            self.assertNo(is_least, TABLE_204, times(row, 2))
        self.assertNo(is_least, TABLE_204, plus(known[0], known[1]))

    def test_is_least_among_all_rows(self):
        for own in some_owns(8, 2, 10) + some_owns(9, 3, 10) + [(4, 3), (1, 2, 3), (0, 0), (0, 2, 4)]:
            known = plain_least(own)
            for row in itertools.product(range(-4, 5), repeat=len(own)):
                self.assertIs(is_least(Table(own, own), row), row in known)


class TestInner(Case):
    def test_inner(self):
        self.assertGives((0, -1, 1), inner, SHELF, [1, -2, 1])
        self.assertGives(None, inner, SHELF, [0, 1, -1])
        self.assertGives(None, inner, SHELF, (0, 0, 0))
        self.assertGives((-1, 1, 0), inner, SHELF, (-2, 2, 0))
        self.assertGives((0, 1, -1), inner, SHELF, (0, GREAT, -GREAT))
        self.assertGives(None, inner, RANK_0, (0,))
        self.assertGives((-1,), inner, ONE_FREE, [-2])
        self.assertGives(None, inner, ONE_FREE, [1])

    def test_inner_is_the_first(self):
        for own in some_owns(10, 3, 12) + [(1, 2, 3), (0, 1, 0), (4, 3, -2)]:
            known = plain_least(own)
            for row in itertools.product(range(-3, 4), repeat=3):
                if sum([a * b for a, b in zip(own, row)]) == 0:
                    inside = [part for part in known if part != row and plain_fits(part, row)]
                    self.assertSame(inner(Table(own, own), row), inside[0] if inside else None)

    def test_which_error_comes_first(self):
        for value in NO_CHANGES:
            self.assertInvalid(InvalidChange, value, inner, SHELF, value)
        for value in NO_LISTS + [[], [0] * 5, (1, 0, 0, 0, 0, 0), [True, 0, 0, 0, 0, 0]]:
            self.assertInvalid(InvalidChange, value, inner, TABLE_204, value)
        for value in ([0] * 6, (3, -2, 0, 0, 0, 0), (0, 1, -1, 0, 0, 0)):
            self.assertTooMany("changes", 200, inner, TABLE_204, value)


class TestFitting(Case):
    def test_fitting(self):
        self.assertGives([(0, 0, 0), (1, -1, 0), (2, -2, 0)], fitting, SHELF, (2, -2, 0))
        self.assertGives([(0, 0, 0)], fitting, SHELF, [0, 0, 0])
        self.assertGives([(0, 0, 0), (1, 0, -1)], fitting, SHELF, [1, 0, -1])
        self.assertGives([(0,)], fitting, RANK_0, [0])
        self.assertGives([(-3,), (-2,), (-1,), (0,)], fitting, ONE_FREE, [-3])
        self.assertGives([(0, 0, 0), (0, 3, -2), (1, 1, -1), (2, 2, -2), (3, 0, -1), (3, 3, -3)],
                         fitting, TWO_WAYS, (3, 3, -3))

    def test_fitting_by_all_rows(self):
        for own in some_owns(11, 3, 15) + [(0, 0, 0), (1, 1, 1)]:
            for row in itertools.product((-3, -1, 0, 2, 4), repeat=3):
                if sum([a * b for a, b in zip(own, row)]) == 0:
                    found = fitting(Table(own, own), list(row))
                    self.assertSame(found, plain_within(own, row))
                    for inside in found:
                        self.assertYes(fits, inside, row)
                        self.assertIn(less(row, inside), found)

    def test_two_thousand_choices(self):
        free = Table((0, 0), (1, 1))
        self.assertEqual(fitting(free, [39, -49]), plain_within((0, 0), (39, -49)))
        self.assertEqual(len(fitting(free, (39, -49))), 2000)
        self.assertEqual(len(fitting(ONE_FREE, [1999])), 2000)
        self.assertTooMany("choices", 2000, fitting, ONE_FREE, [2000])
        self.assertTooMany("choices", 2000, fitting, ONE_FREE, [-2000])
        self.assertTooMany("choices", 2000, fitting, NO_OWN, [2, -22, 28])
        self.assertTooMany("choices", 2000, fitting, free, (GREAT, -GREAT))
        self.assertEqual(len(fitting(SHELF, (43, -43, 0))), 44)
        self.assertTooMany("choices", 2000, fitting, SHELF, (44, -44, 0))
        self.assertEqual(len(fitting(TABLE_204, (0, 1, -1, 0, 0, 0))), 2)

    def test_invalid_changes(self):
        for value in NO_CHANGES:
            self.assertInvalid(InvalidChange, value, fitting, SHELF, value)
        self.assertInvalid(InvalidChange, (GREAT, GREAT, 0), fitting, SHELF, (GREAT, GREAT, 0))

    def test_a_change_is_least_if_nothing_is_inside(self):
        for own in ((1, 2, 3), (4, 3, -2), (0, 2, 4), (1, 1, 1)):
            table = Table(own, own)
            for row in itertools.product(range(-3, 4), repeat=3):
                if any(row) and is_change(table, row):
                    self.assertEqual(is_least(table, row), inner(table, row) is None)
                    self.assertEqual(is_least(table, row), len(fitting(table, row)) == 2)


if __name__ == "__main__":
    unittest.main()
