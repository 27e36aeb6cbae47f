"""Tables and what is made of them [5], [13]."""

import itertools
import random
import unittest

from likestreets import tables
from likestreets.errors import (
    InvalidNumber, InvalidOrder, InvalidPlace, InvalidRow, InvalidTable, TooFew, UnlikeLengths,
)
from likestreets.rows import times
from likestreets.tables import (
    Table, arranged, is_change, pull, signed, widened, with_column, without_column,
)
from helpers import GREAT, NO_INTEGERS, NO_LISTS, NO_ROWS, NO_TABLES, SHELF, Case, Thing

NO_ENTRIES = NO_ROWS + [[5], (-5,), [1, 5, 0], (0, 0, -5), [GREAT, 0, 0], [4, 4, 4, 4, 4, 5]]


class TestTable(Case):
    def test_interface(self):
        names = ("Table", "pull", "is_change", "with_column", "without_column", "arranged", "signed", "widened")
        self.assertDefinedIn(tables, *names)
        for name in ("__init__", "__eq__", "__repr__"):
            self.assertIn(name, vars(Table))
        self.assertParameters(Table, "own", "common")
        self.assertEqual(Table(common=[2], own=[1]), Table([1], [2]))
        self.assertParameters(pull, "table", "row")
        self.assertParameters(is_change, "table", "value")
        self.assertParameters(with_column, "table", "first", "second")
        self.assertParameters(without_column, "table", "place")
        self.assertParameters(arranged, "table", "order")
        self.assertParameters(signed, "table", "place")
        self.assertParameters(widened, "table")

    def test_properties(self):
        for own, common in (([1, 1, 1], (0, 1, 2)), ((3,), [1]), ([0] * 6, [-4, 4, 0, 1, 2, 3]), ([-4], [4])):
            table = Table(own, common)
            self.assertSame(table.own, tuple(own))
            self.assertSame(table.common, tuple(common))
            self.assertSame(table.columns, len(own))

    def test_all_entries_from_4_below_to_4_above(self):
        for own, common in itertools.product(range(-4, 5), repeat=2):
            self.assertEqual(Table([own], [common]).own + Table([own], [common]).common, (own, common))

    def test_table_copies_what_it_is_given(self):
        own, common = [1, 2], [3, 4]
        table = Table(own, common)
        own.append(7)
        common[0] = 9
        self.assertEqual((table.own, table.common, table.columns), ((1, 2), (3, 4), 2))

    def test_equal(self):
        self.assertTrue(Table([1, 1], (0, 1)) == Table((1, 1), [0, 1]))
        self.assertFalse(Table([1, 1], (0, 1)) != Table((1, 1), [0, 1]))
        for other in (Table([1, 1], [0, 2]), Table([1, 2], [0, 1]), Table([0, 1], [1, 1]), Table([1], [0])):
            self.assertIs(Table([1, 1], [0, 1]) == other, False)
            self.assertIs(Table([1, 1], [0, 1]) != other, True)
        for value in NO_TABLES + [((1, 1), (0, 1)), "Table((1, 1), (0, 1))", (1, 1)]:
            self.assertIs(Table([1, 1], [0, 1]) == value, False)

    def test_repr(self):
        self.assertEqual(repr(Table([1, 1], [0, 1])), "Table((1, 1), (0, 1))")
        self.assertEqual(repr(Table([3], (-4,))), "Table((3,), (-4,))")
        self.assertEqual(repr(Table([0] * 6, [1, -1] * 3)), "Table((0, 0, 0, 0, 0, 0), (1, -1, 1, -1, 1, -1))")
        self.assertEqual(eval(repr(SHELF)), SHELF)

    def test_invalid_rows(self):
        for value in NO_ENTRIES:
            self.assertInvalid(InvalidRow, value, Table, value, [1, 1, 1])
            self.assertInvalid(InvalidRow, value, Table, [1, 1, 1], value)
            self.assertInvalid(InvalidRow, value, Table, value, "x")

    def test_unlike_lengths_are_behind(self):
        for one, two in ((1, 2), (6, 5), (2, 3)):
            self.assertFails(UnlikeLengths, {}, Table, [1] * one, (1,) * two)
        self.assertInvalid(InvalidRow, [5], Table, [1, 1], [5])
        self.assertInvalid(InvalidRow, (5, 1), Table, (5, 1), [1])


class TestChangesAndPulls(Case):
    def test_is_change(self):
        for value in ([1, -2, 1], (0, 0, 0), [GREAT, -GREAT, 0], (GREAT, GREAT, -2 * GREAT)):
            self.assertYes(is_change, SHELF, value)
        for value in NO_ROWS + [[1, 0, 1], (1, -1), [1, -1, 0, 0], [0, 0], (GREAT, -GREAT, 1)]:
            self.assertNo(is_change, SHELF, value)
        self.assertYes(is_change, Table([3], [1]), [0])
        self.assertNo(is_change, Table([3], [1]), [1])
        self.assertYes(is_change, Table([0], [1]), [-GREAT])
        self.assertYes(is_change, Table([0] * 6, [1] * 6), (1, 2, 3, 4, 5, 6))
        self.assertNo(is_change, Table([0] * 6, [1] * 6), (1, 2, 3, 4, 5))
        for value in (True, [True, -1, 0], (False, 0, 0), [1, -1, False]):
            self.assertNo(is_change, SHELF, value)

    def test_pull(self):
        self.assertGives(-2, pull, SHELF, [1, 0, -1])
        self.assertGives(8, pull, SHELF, (1, 2, 3))
        self.assertGives(0, pull, SHELF, (5, 0, 0))
        self.assertGives(-4 * GREAT, pull, Table([4], [-4]), [GREAT])
        for value in NO_ROWS:
            self.assertInvalid(InvalidRow, value, pull, SHELF, value)
        for row in ([1], [1, 1], (0, 0, 0, 0)):
            self.assertFails(UnlikeLengths, {}, pull, SHELF, row)

    def test_invalid_tables(self):
        for value in NO_TABLES:
            self.assertInvalid(InvalidTable, value, pull, value, None)
            self.assertInvalid(InvalidTable, value, is_change, value, [1])
            self.assertInvalid(InvalidTable, value, with_column, value, 9, 9)
            self.assertInvalid(InvalidTable, value, without_column, value, None)
            self.assertInvalid(InvalidTable, value, arranged, value, None)
            self.assertInvalid(InvalidTable, value, signed, value, None)
            self.assertInvalid(InvalidTable, value, widened, value)


class TestTablesChanged(Case):
    def made(self, wanted, function, *arguments):
        """The function makes this table and leaves the table that it is given."""
        before = repr(arguments[0])
        found = function(*arguments)
        self.assertIsInstance(found, Table)
        self.assertEqual(found, wanted)
        self.assertEqual(repr(found), repr(wanted))
        self.assertEqual(function(*arguments), wanted)
        self.assertEqual(repr(arguments[0]), before)

    def test_with_column(self):
        self.made(Table([1, 1, 1, 0], [0, 1, 2, 4]), with_column, SHELF, 0, 4)
        self.made(Table([2, -4], [3, -3]), with_column, Table([2], [3]), -4, -3)
        self.made(Table([1] * 6, [2] * 6), with_column, Table([1] * 5, [2] * 5), 1, 2)
        for value in NO_INTEGERS + [5, -5, GREAT]:
            self.assertInvalid(InvalidNumber, value, with_column, SHELF, value, 0)
            self.assertInvalid(InvalidNumber, value, with_column, SHELF, 0, value)
            self.assertInvalid(InvalidNumber, value, with_column, SHELF, value, None)
            self.assertInvalid(InvalidNumber, value, with_column, Table([1] * 6, [2] * 6), value, 0)
            self.assertInvalid(InvalidNumber, value, with_column, Table([1] * 6, [2] * 6), 1, value)
        self.assertTooMany("columns", 6, with_column, Table([1] * 6, [2] * 6), 1, 1)

    def test_without_column(self):
        table = Table([1, 2, 3], [4, -4, 0])
        self.made(Table([2, 3], [-4, 0]), without_column, table, 0)
        self.made(Table([1, 3], [4, 0]), without_column, table, 1)
        self.made(Table([1, 2], [4, -4]), without_column, table, 2)
        self.made(Table([1] * 5, [2] * 5), without_column, Table([1] * 6, [2] * 6), 5)
        for value in NO_INTEGERS + [3, -1, -3, GREAT]:
            self.assertInvalid(InvalidPlace, value, without_column, table, value)
        self.assertFails(TooFew, {}, without_column, Table([1], [1]), 0)

    def test_arranged(self):
        table = Table([1, 2, 3], [4, -4, 0])
        self.made(Table([3, 1, 2], [0, 4, -4]), arranged, table, [2, 0, 1])
        self.made(table, arranged, table, (0, 1, 2))
        self.made(Table([2, 1, 3], [-4, 4, 0]), arranged, table, (1, 0, 2))
        self.made(Table([1], [2]), arranged, Table([1], [2]), [0])
        self.made(Table([4, 3, 2, 1, 0, -1], [0] * 6), arranged,
                  Table([-1, 0, 1, 2, 3, 4], [0] * 6), [5, 4, 3, 2, 1, 0])
        wrong = [[], [0], [0, 1], [0, 1, 1], [0, 1, 3], [1, 2, 3], [-1, 0, 1], [0, 1, 2, 0], [0, 1, 2, 3],
                 [0, True, 2], (False, 1, 2), [0, 1, "2"], [0, 1, None], [[0], 1, 2], [0, 1, Thing()]]
        for value in NO_LISTS + wrong:
            self.assertInvalid(InvalidOrder, value, arranged, table, value)

    def test_signed(self):
        table = Table([1, -2, 0], [4, -4, 3])
        self.made(Table([-1, -2, 0], [-4, -4, 3]), signed, table, 0)
        self.made(Table([1, 2, 0], [4, 4, 3]), signed, table, 1)
        self.made(Table([1, -2, 0], [4, -4, -3]), signed, table, 2)
        self.made(Table([-4], [4]), signed, Table([4], [-4]), 0)
        for value in NO_INTEGERS + [3, -1, GREAT]:
            self.assertInvalid(InvalidPlace, value, signed, table, value)

    def test_widened(self):
        self.made(Table((1, 1, 1, 0, 0), (0, 1, 2, 1, -1)), widened, SHELF)
        self.made(Table((4, 0, 0), (-3, 1, -1)), widened, Table([4], [-3]))
        self.made(Table((1, 2, 3, 4, 0, 0), (0, 0, 0, 0, 1, -1)), widened, Table([1, 2, 3, 4], [0] * 4))
        for many in (5, 6):
            self.assertTooMany("columns", 6, widened, Table([1] * many, [0] * many))

    def test_fact_of_arranged_and_signed(self):
        source = random.Random(4)
        for _ in range(30):
            many = source.randint(1, 6)
            own, common = [[source.randint(-4, 4) for _ in range(many)] for _ in range(2)]
            table, order, place = Table(own, common), source.sample(range(many), many), source.randrange(many)
            for _ in range(20):
                row = [source.randint(-2, 2) for _ in range(many)]
                moved = tuple([row[at] for at in order])
                turned = list(row)
                turned[place] *= -1
                for made, other in ((arranged(table, order), moved), (signed(table, place), turned)):
                    self.assertEqual(is_change(made, other), is_change(table, row))
                    self.assertEqual(pull(made, other), pull(table, row))
                self.assertEqual(is_change(table, times(row, 3)), is_change(table, row))


if __name__ == "__main__":
    unittest.main()
