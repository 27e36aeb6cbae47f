"""Closed and reduced lists [26], [27]."""

import random
import unittest

from likestreets import closed
from likestreets.closed import is_closed_list, lacking, reduced, unclosed
from likestreets.errors import InvalidChanges, InvalidTable
from likestreets.least import least_changes
from likestreets.rows import times
from likestreets.tables import Table
from helpers import (
    GREAT, NO_LISTS, NO_OWN, NO_ROWS, NO_TABLES, ONE_FREE, RANK_0, SHELF, TABLE_204, UNITS, Case, plain_fits,
    plain_least, some_owns,
)

SOME = [(1, -1, 0), (-1, 1, 0), (0, 1, -1), (0, -1, 1)]
SIX = SOME + [[1, 0, -1], [-1, 0, 1]]
NO_CHANGE_LISTS = NO_LISTS + [
    [None], [[1, 0, 0]], [(1, -1)], [[1, -1, 0], [True, -1, 0]], [[1, -1, False]], [1, -1, 0], (1, -1, 0), [[]], [()],
    [[1, -1, 0, 0]], [(1, -1, 0), "abc"], [SHELF], [[0, 0, 0]] * 61, ((1, -1, 0),) * 61, [[1, -1, 0], [[1, -1, 0]]],
]


def plain_unclosed(rows):
    """The first pair whose sum no sum of fitting listed rows comes to."""
    for i in range(len(rows)):
        for j in range(i, len(rows)):
            whole = tuple([a + b for a, b in zip(rows[i], rows[j])])
            if whole not in sums_up_to(rows, whole):
                return (i, j)
    return None


def sums_up_to(rows, whole):
    """All sums, nought too, of those rows that fit into the whole, as far as they fit into it."""
    parts = [row for row in rows if plain_fits(row, whole)]
    reached = {(0,) * len(whole)}
    new = set(reached)
    while new:
        new = {tuple([a + b for a, b in zip(one, row)]) for one in new for row in parts}
        new = {one for one in new if plain_fits(one, whole)} - reached
        reached |= new
    return reached


class TestUnclosed(Case):
    def test_interface(self):
        self.assertDefinedIn(closed, "unclosed", "lacking", "is_closed_list", "reduced")
        for function in (unclosed, lacking, reduced):
            self.assertParameters(function, "table", "changes")
        self.assertParameters(is_closed_list, "table", "value")

    def test_unclosed(self):
        self.assertGives((0, 2), unclosed, SHELF, SOME)
        self.assertGives((0, 2), unclosed, SHELF, tuple([list(row) for row in SOME]))
        self.assertGives(None, unclosed, SHELF, SIX)
        self.assertGives(None, unclosed, SHELF, [])
        self.assertGives(None, unclosed, SHELF, [(0, 0, 0)])
        self.assertGives(None, unclosed, SHELF, [(1, -1, 0), [1, -1, 0], (2, -2, 0)])
        self.assertGives((0, 1), unclosed, SHELF, [(1, -1, 0), (-2, 2, 0)])
        self.assertGives(None, unclosed, SHELF, [(1, -1, 0), (-1, 1, 0)])
        self.assertGives((1, 2), unclosed, SHELF, [(0, 0, 0), (1, -1, 0), (0, 1, -1)])
        self.assertGives(None, unclosed, RANK_0, [[0], (0,)])
        self.assertGives(None, unclosed, ONE_FREE, [[2], [-2]])
        self.assertGives((0, 3), unclosed, ONE_FREE, [[2], [-2], [3], [-3]])
        self.assertGives(None, unclosed, ONE_FREE, [[-1], [1]])

    def test_alike_ones_close(self):
        for row in ((5, -5, 0), (1, -2, 1)):
            self.assertGives(None, unclosed, SHELF, [row])
            self.assertGives(None, unclosed, SHELF, [row, row])
            self.assertGives(None, unclosed, SHELF, [row, times(row, -1)])

    def test_parts_must_fit(self):
        # (1, 0, -1) is a sum of listed ones, but one of them does not fit into it.
        self.assertGives((0, 1), unclosed, SHELF, [(1, -1, 0), (0, 1, -1)])
        # (1, -2, 1) fits into (2, -2, 0) less nowhere: its third number does not.
        self.assertGives((0, 1), unclosed, SHELF, [(1, -2, 1), (0, 1, -1), (2, -2, 0)])

    def test_unclosed_by_all_sums(self):
        source = random.Random(2)
        for own in some_owns(1, 2, 15) + some_owns(2, 3, 30) + [(0, 0), (1, 1, 1), (1, 2, 3)]:
            known = plain_least(own)
            if known:
                for many in (1, 2, 4, 6):
                    rows = [times(source.choice(known), source.choice((1, 1, 1, 2))) for _ in range(many)]
                    self.assertGives(plain_unclosed(rows), unclosed, Table(own, own), rows)

    def test_all_least_changes_close(self):
        for own in some_owns(3, 2, 10) + some_owns(4, 3, 10) + some_owns(5, 4, 4) + [(0, 0, 0), (1, 2, 3, 4)]:
            known = plain_least(own)
            if len(known) <= 60:
                self.assertGives(None, unclosed, Table(own, own), known)

    def test_choices_of_any_two(self):
        self.assertGives(None, unclosed, ONE_FREE, [[999]])
        self.assertTooMany("choices", 2000, unclosed, ONE_FREE, [[1000]])
        self.assertGives(None, unclosed, ONE_FREE, [[999], [-999]])
        self.assertTooMany("choices", 2000, unclosed, ONE_FREE, [[999], [1001]])
        self.assertTooMany("choices", 2000, unclosed, SHELF, SOME + [(22, -22, 0)])
        self.assertGives((0, 2), unclosed, SHELF, SOME + [(21, -21, 0)])
        self.assertTooMany("choices", 2000, unclosed, SHELF, [(GREAT, 0, -GREAT)])
        self.assertGives(None, unclosed, Table((0, 0), (1, 1)), [[0, 49], [39, 0]])
        self.assertTooMany("choices", 2000, unclosed, Table((0, 0), (1, 1)), [[0, 49], [40, 0]])

    def test_invalid_changes_come_first(self):
        for value in NO_CHANGE_LISTS:
            for function in (unclosed, lacking, reduced):
                self.assertInvalid(InvalidChanges, value, function, SHELF, value)
        value = [(GREAT, -GREAT, 0), (1, 0, 0)]
        self.assertInvalid(InvalidChanges, value, unclosed, SHELF, value)
        self.assertInvalid(InvalidChanges, value, lacking, TABLE_204, value)
        for value in NO_TABLES:
            for function in (unclosed, lacking, reduced, is_closed_list):
                self.assertInvalid(InvalidTable, value, function, value, None)

    def test_sixty_changes(self):
        sixty = [(k, -k, 0) for k in range(-10, 11) if k] + [(0, 0, 0)] * 40
        self.assertGives(None, unclosed, SHELF, sixty)
        self.assertGives((-1, 0, 1), lacking, SHELF, sixty)
        self.assertGives([(-1, 1, 0), (1, -1, 0)], reduced, SHELF, sixty)
        for function in (unclosed, lacking, reduced):
            self.assertInvalid(InvalidChanges, sixty + [(0, 0, 0)], function, SHELF, sixty + [(0, 0, 0)])

    def test_more_than_two_hundred_least_changes_are_no_matter(self):
        rows = [(0, 1, -1, 0, 0, 0), [0, -1, 1, 0, 0, 0]]
        self.assertGives(None, unclosed, TABLE_204, rows)
        self.assertGives(sorted([tuple(row) for row in rows]), reduced, TABLE_204, rows)
        self.assertNo(is_closed_list, TABLE_204, rows)


class TestLacking(Case):
    def test_lacking(self):
        self.assertGives((-1, 0, 1), lacking, SHELF, SOME)
        self.assertGives(None, lacking, SHELF, SIX)
        self.assertGives((-1, 0, 1), lacking, SHELF, [])
        self.assertGives(None, lacking, RANK_0, [])
        self.assertGives((1,), lacking, ONE_FREE, ([-1], [2], [0]))
        self.assertGives((0, 0, 1), lacking, NO_OWN, UNITS[:3] + UNITS[4:])
        self.assertTooMany("changes", 200, lacking, TABLE_204, [])
        self.assertTooMany("changes", 200, lacking, TABLE_204, [[0] * 6])

    def test_one_left_out(self):
        for own in some_owns(6, 3, 10) + [(1, 2, 3, 4), (0, 0)]:
            table, known = Table(own, own), plain_least(own)
            if len(known) <= 60:
                for at in range(len(known)):
                    self.assertGives(known[at], lacking, table, known[:at] + known[at + 1:])
                    self.assertGives(known[at], lacking, table, tuple(known[:at]))
                self.assertGives(None, lacking, table, known[::-1])


class TestClosedLists(Case):
    def test_is_closed_list(self):
        self.assertYes(is_closed_list, SHELF, SIX)
        self.assertYes(is_closed_list, SHELF, tuple(SIX[::-1]))
        self.assertYes(is_closed_list, SHELF, SIX + [(0, 0, 0)])
        self.assertYes(is_closed_list, SHELF, SIX + [(1, -2, 1), [-1, 2, -1]])
        self.assertNo(is_closed_list, SHELF, SOME)
        self.assertNo(is_closed_list, SHELF, SIX + [(1, -2, 1)])
        self.assertNo(is_closed_list, SHELF, SIX + [(1, 0, -1)])
        self.assertNo(is_closed_list, SHELF, SIX[:5])
        self.assertNo(is_closed_list, SHELF, [times(row, 2) for row in SIX])
        self.assertNo(is_closed_list, SHELF, SIX[:2])
        self.assertNo(is_closed_list, SHELF, [])
        self.assertYes(is_closed_list, RANK_0, [])
        self.assertYes(is_closed_list, RANK_0, ([0],))
        self.assertNo(is_closed_list, RANK_0, [[0], (0,)])
        self.assertNo(is_closed_list, ONE_FREE, [])
        self.assertYes(is_closed_list, ONE_FREE, [[1], (-1,)])
        self.assertNo(is_closed_list, ONE_FREE, [[2], [-2]])
        self.assertNo(is_closed_list, ONE_FREE, [[2], [-2], [3], [-3]])
        self.assertYes(is_closed_list, NO_OWN, UNITS)

    def test_any_value(self):
        for value in NO_CHANGE_LISTS:
            self.assertNo(is_closed_list, SHELF, value)
        for value in NO_ROWS:
            self.assertNo(is_closed_list, SHELF, SIX + [value])
            self.assertNo(is_closed_list, ONE_FREE, [value, (1,), (-1,)])
        self.assertNo(is_closed_list, SHELF, SIX[:5] + [[-1, False, 1]])

    def test_closed_lists_have_all_least_changes(self):
        for own in some_owns(7, 2, 12) + some_owns(8, 3, 12) + [(1, 2, 3), (1, 2, 3, 4), (0, 1, 0)]:
            table, known = Table(own, own), plain_least(own)
            if len(known) <= 60:
                self.assertYes(is_closed_list, table, known)
                self.assertGives(known, reduced, table, known + known[:60 - len(known)])
                for row in known[::3]:
                    less = [other for other in known if other not in (row, times(row, -1))]
                    self.assertNo(is_closed_list, table, less)
                    self.assertNo(is_closed_list, table, [other for other in known if other != row])

    def test_closed_lists_with_more_than_least_changes(self):
        source = random.Random(5)
        for own in some_owns(9, 2, 20) + some_owns(10, 3, 20):
            table, known = Table(own, own), plain_least(own)
            if known and len(known) <= 30:
                more = {tuple([a + b for a, b in zip(*source.choices(known, k=2))]) for _ in range(6)}
                rows = sorted(set(known) | more | {times(row, -1) for row in more})
                self.assertYes(is_closed_list, table, rows)
                self.assertGives(known, reduced, table, rows)
                self.assertGives(None, lacking, table, rows)

    def test_sixty_and_sixty_one(self):
        table = Table((1, 1, 1, 3), (0, 1, 2, 3))
        rows = least_changes(table)
        self.assertEqual(len(rows), 26)
        for many in range(2, 8):
            for row in ((1, -1, 0, 0), (0, 1, -1, 0), (1, 0, -1, 0)):
                rows += [times(row, many), times(row, -many)]
        rows = rows[:60]
        self.assertEqual(len(rows), 60)
        self.assertYes(is_closed_list, table, rows)
        self.assertYes(is_closed_list, table, rows[:-2] + [(0, 0, 0, 0)])
        self.assertNo(is_closed_list, table, rows + [(0, 0, 0, 0)])
        self.assertNo(is_closed_list, table, rows + [(0, 2, -2, 0), (0, -2, 2, 0)])

    def test_choices_if_all_else_is_so(self):
        great = [(22, -22, 0), (-22, 22, 0)]
        self.assertTooMany("choices", 2000, is_closed_list, SHELF, SIX + great)
        self.assertTooMany("choices", 2000, is_closed_list, SHELF, SOME + great)
        self.assertYes(is_closed_list, SHELF, SIX + [(21, -21, 0), (-21, 21, 0)])
        self.assertNo(is_closed_list, SHELF, SIX + great[:1])
        self.assertNo(is_closed_list, SHELF, SIX + great + great)
        self.assertNo(is_closed_list, SHELF, SIX[:2] + great)
        self.assertNo(is_closed_list, SHELF, SIX + great + [(1, 0, 0)])
        self.assertNo(is_closed_list, SHELF, SIX + great + [[0, 0, 0]] * 53)
        self.assertTooMany("choices", 2000, is_closed_list, ONE_FREE, [[1], [-1], [1000], [-1000]])
        self.assertYes(is_closed_list, ONE_FREE, [[1], [-1], [999], [-999]])
        self.assertTooMany("choices", 2000, is_closed_list, ONE_FREE, [[1], [-1], [GREAT], [-GREAT]])

    def test_reduced(self):
        self.assertGives([(1, -1, 0)], reduced, SHELF, [[1, -2, 1], [1, -1, 0], [0, 0, 0]])
        self.assertGives([], reduced, SHELF, [])
        self.assertGives([], reduced, SHELF, [(0, 0, 0), [0, 0, 0]])
        self.assertGives([(5, -5, 0)], reduced, SHELF, [(5, -5, 0), [5, -5, 0], (0, 0, 0), (6, -7, 1)])
        self.assertGives([(-2, 2, 0), (3, -3, 0)], reduced, SHELF, ([3, -3, 0], [-2, 2, 0], [-4, 4, 0], [GREAT, -GREAT, 0]))
        self.assertGives([(-GREAT, GREAT, 0), (GREAT, -GREAT, 0)], reduced, SHELF,
                         [(GREAT, -GREAT, 0), (-GREAT, GREAT, 0)])
        self.assertGives([], reduced, RANK_0, [[0]])

    def test_reduced_by_its_words(self):
        source = random.Random(6)
        for own in some_owns(11, 2, 10) + some_owns(12, 3, 20):
            known = plain_least(own)
            for _ in range(5 if known else 0):
                rows = [tuple([a + b for a, b in zip(*source.choices(known, k=2))]) for _ in range(12)]
                wanted = sorted({row for row in rows if any(row) and not any(
                    [any(other) and other != row and plain_fits(other, row) for other in rows])})
                self.assertGives(wanted, reduced, Table(own, own), rows)


if __name__ == "__main__":
    unittest.main()
