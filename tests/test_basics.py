"""INTEGERS, COUNTS and lists [2]."""

import unittest

from likestreets import basics
from likestreets.basics import is_count, is_integer, is_list
from helpers import GREAT, NO_INTEGERS, NO_LISTS, Case


class TestBasics(Case):
    def test_interface(self):
        self.assertDefinedIn(basics, "is_integer", "is_count", "is_list")
        for function in (is_integer, is_count, is_list):
            self.assertParameters(function, "value")

    def test_integers(self):
        for value in (0, 1, -1, 4, -7, GREAT, -GREAT, GREAT ** 9):
            self.assertYes(is_integer, value)
        for value in NO_INTEGERS:
            self.assertNo(is_integer, value)

    def test_true_and_false_are_no_numbers(self):
        for value in (True, False):
            self.assertNo(is_integer, value)
            self.assertNo(is_count, value)
            self.assertNo(is_list, value)

    def test_counts(self):
        for value in (0, 1, 2, GREAT):
            self.assertYes(is_count, value)
        for value in NO_INTEGERS + [-1, -2, -GREAT]:
            self.assertNo(is_count, value)

    def test_lists(self):
        for value in ([], (), [1], (1, "a"), [None], [True], [[]], ([],), list(range(300))):
            self.assertYes(is_list, value)
        for value in NO_LISTS:
            self.assertNo(is_list, value)


if __name__ == "__main__":
    unittest.main()
