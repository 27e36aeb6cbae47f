"""Rows [5], [11], [12]."""

import itertools
import random
import unittest

from likestreets import rows
from likestreets.errors import InvalidNumber, InvalidRow, UnlikeLengths
from likestreets.rows import fits, is_row, length_of, less, meet, mirrored, plus, times, worth
from helpers import GREAT, NO_INTEGERS, NO_ROWS, Case

OF_TWO = (plus, less, worth, fits, meet)
ROWS = ([0], (5,), [1, -1], (0, 0, 0, 0, 0, 0), [1, -2, 3, -4, 5, -6], [GREAT] * 6, (-GREAT, 0))


class TestRows(Case):
    def test_interface(self):
        names = ("is_row", "plus", "less", "times", "mirrored", "worth", "fits", "meet", "length_of")
        self.assertDefinedIn(rows, *names)
        for function in OF_TWO:
            self.assertParameters(function, "row", "other")
        self.assertParameters(is_row, "value")
        self.assertParameters(times, "row", "number")
        self.assertParameters(mirrored, "row")
        self.assertParameters(length_of, "row")
        self.assertEqual(plus(other=[1], row=[2]), (3,))
        self.assertEqual(less(other=[1], row=[2]), (1,))
        self.assertEqual(times(number=3, row=[2]), (6,))

    def test_is_row(self):
        for row in ROWS:
            self.assertYes(is_row, row)
        for value in NO_ROWS:
            self.assertNo(is_row, value)
        for many in range(1, 7):
            self.assertYes(is_row, [0] * many)
            self.assertYes(is_row, tuple(range(many)))
            self.assertNo(is_row, [0] * (many - 1) + [True])
            self.assertNo(is_row, [False] + [1] * (many - 1))
        for many in (0, 7, 8, 200):
            self.assertNo(is_row, [0] * many)
            self.assertNo(is_row, (1,) * many)

    def test_added_and_taken(self):
        self.assertGives((1, 1), plus, [1, -1], (0, 2))
        self.assertGives((1, -3), less, (1, -1), [0, 2])
        self.assertGives((8,), plus, (5,), (3,))
        self.assertGives((2,), less, [5], [3])
        self.assertGives((GREAT + 1, -GREAT - 2), plus, [GREAT, -GREAT], [1, -2])
        self.assertGives((GREAT * 2, 0), less, [GREAT, GREAT], [-GREAT, GREAT])
        self.assertGives((0, 3, 0, -3, 7, 7), plus, [1, 2, 3, 4, 5, 6], (-1, 1, -3, -7, 2, 1))

    def test_multiplied_and_mirrored(self):
        self.assertGives((-3, 3), times, [1, -1], -3)
        self.assertGives((0, 0, 0), times, (4, -5, 6), 0)
        self.assertGives((4, -5, 6), times, (4, -5, 6), 1)
        self.assertGives((GREAT * GREAT, -GREAT), times, [GREAT, -1], GREAT)
        self.assertGives((-1, 2, 0), mirrored, [1, -2, 0])
        self.assertGives((0,), mirrored, (0,))
        self.assertGives((GREAT, -GREAT), mirrored, (-GREAT, GREAT))

    def test_worth(self):
        self.assertGives(1, worth, [1, 2], [3, -1])
        self.assertGives(0, worth, [0, 0], (3, -1))
        self.assertGives(6 * GREAT * GREAT, worth, [GREAT] * 6, (GREAT,) * 6)
        self.assertGives(-15, worth, [-3], [5])
        self.assertGives(91, worth, [1, 2, 3, 4, 5, 6], [1, 2, 3, 4, 5, 6])

    def test_fits_place_by_place(self):
        self.assertYes(fits, [1, 0, -1], (2, -1, -1))
        self.assertNo(fits, [1, 1], [2, -1])
        for inside, around in itertools.product(range(-3, 4), repeat=2):
            wanted = inside == 0 or (inside * around > 0 and abs(inside) <= abs(around))
            self.assertIs(fits([inside], [around]), wanted)
            self.assertIs(fits((0, inside, 1), [5, around, 1]), wanted)
            self.assertIs(fits((1, inside), [-1, around]), False)
        self.assertYes(fits, [GREAT, -GREAT], (GREAT, -GREAT))
        self.assertNo(fits, [GREAT + 1, -GREAT], (GREAT, -GREAT))

    def test_facts_of_fitting(self):
        few = list(itertools.product((-2, -1, 0, 1, 2), repeat=2))
        for row in few:
            self.assertYes(fits, row, row)
            self.assertYes(fits, (0, 0), row)
        for row, other in itertools.product(few, repeat=2):
            self.assertEqual(fits(row, other) and fits(other, row), row == other)
            if fits(row, other):
                left = less(other, row)
                self.assertYes(fits, left, other)
                self.assertEqual(length_of(row) + length_of(left), length_of(other))
                for third in few:
                    if fits(other, third):
                        self.assertYes(fits, row, third)

    def test_meet(self):
        self.assertGives((1, -2, 0), meet, [3, -2, 1], [1, -5, -1])
        self.assertGives((0, 0, 0, 0), meet, [3, -2, 0, 0], (0, 0, 4, 0))
        self.assertGives((GREAT, -GREAT), meet, [GREAT, -GREAT - 1], [GREAT + 1, -GREAT])
        few = list(itertools.product((-2, -1, 0, 1, 2), repeat=2))
        for row, other in itertools.product(few, repeat=2):
            found = meet(row, other)
            self.assertTupleOfIntegers(found)
            self.assertEqual(found, meet(other, row))
            for third in few:
                self.assertEqual(fits(third, row) and fits(third, other), fits(third, found))

    def test_length(self):
        self.assertGives(6, length_of, [3, -2, 1])
        self.assertGives(0, length_of, (0, 0))
        self.assertGives(1, length_of, [-1])
        self.assertGives(GREAT * 6, length_of, [GREAT, -GREAT] * 3)

    def test_invalid_rows(self):
        for value in NO_ROWS:
            for function in OF_TWO:
                self.assertInvalid(InvalidRow, value, function, value, [1, 1, 1])
                self.assertInvalid(InvalidRow, value, function, (1, 1, 1), value)
            for function in (mirrored, length_of):
                self.assertInvalid(InvalidRow, value, function, value)
            self.assertInvalid(InvalidRow, value, times, value, 2)

    def test_unlike_lengths(self):
        for function in OF_TWO:
            for one, two in ((1, 2), (2, 1), (6, 5), (3, 6)):
                self.assertFails(UnlikeLengths, {}, function, [0] * one, (0,) * two)

    def test_which_error_comes_first(self):
        for function in OF_TWO:
            self.assertInvalid(InvalidRow, "a", function, "a", "b")
            self.assertInvalid(InvalidRow, [], function, [], (True,))
            self.assertInvalid(InvalidRow, (1, True), function, [1, 2, 3], (1, True))
            self.assertInvalid(InvalidRow, [False], function, [False], (1, 2))
        self.assertInvalid(InvalidRow, [True], times, [True], None)

    def test_invalid_numbers(self):
        for value in NO_INTEGERS:
            self.assertInvalid(InvalidNumber, value, times, [1, 2], value)

    def test_great_sums_by_parts(self):
        source = random.Random(3)
        for _ in range(50):
            many = source.randint(1, 6)
            row, other = [[source.randint(-GREAT, GREAT) for _ in range(many)] for _ in range(2)]
            self.assertGives(tuple([a + b for a, b in zip(row, other)]), plus, row, other)
            self.assertGives(tuple([a - b for a, b in zip(row, other)]), less, row, other)
            self.assertEqual(plus(row, mirrored(other)), less(row, other))
            self.assertGives(sum([a * b for a, b in zip(row, other)]), worth, row, other)


if __name__ == "__main__":
    unittest.main()
