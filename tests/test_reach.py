"""The reach, greatest lots and greatest swaps [34], [36]."""

import unittest

from likestreets import reach as module
from likestreets.errors import InvalidTable
from likestreets.lots import is_least_lot, least_lots
from likestreets.reach import greatest_lot, greatest_swap, is_greatest_swap, reach
from likestreets.swaps import is_least_swap
from likestreets.tables import Table, widened
from helpers import (
    LOTS_300, LOTS_301, NO_LISTS, NO_OWN, NO_ROWS, NO_TABLES, ONE_FREE, RANK_0, SHELF, TABLE_196, TABLE_204, TWO_WAYS,
    Case, plain_least, plain_lots, plain_pulls, plain_worth, some_owns,
)

ALL_PULLS_0 = Table((1, 1), (1, 1))
TOLD = [
    (SHELF, 3), (Table((2, 3), (1, 0)), 2), (ALL_PULLS_0, 1), (RANK_0, 0), (ONE_FREE, 2), (TABLE_196, 1), (NO_OWN, 3),
    (TWO_WAYS, 3), (Table((0, 0), (2, 3)), 5), (Table((0, 0), (4, -3)), 7), (Table((3, 4, 0), (4, -4, 1)), 29),
    (Table((0,), (0,)), 1), (Table((2, -4), (1, -2)), 1), (Table((1, 1, 1, 1), (0, 1, 2, 3)), 5), (Table((-4,), (0,)), 0),
    (Table((0, 1), (0, 3)), 1), (Table((0, 0, 0, 0), (1, -1, 1, -1)), 2),
]


class TestReach(Case):
    def test_interface(self):
        self.assertDefinedIn(module, "reach", "greatest_lot", "greatest_swap", "is_greatest_swap")
        for function in (reach, greatest_lot, greatest_swap):
            self.assertParameters(function, "table")
        self.assertParameters(is_greatest_swap, "table", "value")
        self.assertEqual(reach(table=SHELF), 3)
        self.assertIs(is_greatest_swap(value=[], table=SHELF), False)

    def test_told(self):
        for table, wanted in TOLD:
            self.assertGives(wanted, reach, table)
        self.assertGives(4, reach, widened(Table((1, 1, 1), (0, 3, 3))))

    def test_by_all_lots(self):
        for own in some_owns(5, 3, 40):
            for common in ((0, 0, 0), (1, -1, 0), (2, 1, 0)):
                numbers = plain_pulls(Table(own, common))
                if max([0] + numbers) <= 6:
                    wanted = max([0] + [sum([many for _, many in lot]) for lot in plain_lots(numbers)])
                    self.assertGives(wanted, reach, Table(own, common))

    def test_at_least_2_with_a_pull(self):
        for own in some_owns(6, 2, 60):
            for common in ((1, 0), (-3, 4)):
                numbers = plain_pulls(Table(own, common))
                found = reach(Table(own, common))
                self.assertEqual(found == 0, numbers == [])
                self.assertEqual(found == 1, numbers == [0])
                self.assertEqual(found >= 2, any(numbers))

    def test_greatest_lot(self):
        for table, most in TOLD:
            found = greatest_lot(table)
            if most == 0:
                self.assertIsNone(found)
            else:
                self.assertIs(type(found), list)
                for entry in found:
                    self.assertTupleOfIntegers(entry)
                self.assertEqual(found, sorted(found))
                self.assertEqual(sum([many for _, many in found]), most)
                self.assertYes(is_least_lot, table, found)
                self.assertIn(found, least_lots(table))
                greatest_lot(table).append(1)
                self.assertEqual(greatest_lot(table), found)

    def test_greatest_swap(self):
        for table, most in TOLD:
            found = greatest_swap(table)
            if most == 0:
                self.assertIsNone(found)
            else:
                self.assertRows(found)
                self.assertEqual(len(found), most)
                for change in found:
                    self.assertIn(change, plain_least(table.own))
                self.assertEqual(sum([plain_worth(change, table.common) for change in found]), 0)
                self.assertYes(is_greatest_swap, table, found)
                if most <= 5:
                    self.assertYes(is_least_swap, table, found)
                greatest_swap(table).append(1)
                self.assertEqual(greatest_swap(table), found)

    def test_is_greatest_swap(self):
        for value in ([(1, -1, 0), (-1, 0, 1), (0, 1, -1)], [[0, 1, -1], (-1, 0, 1), [1, -1, 0]],
                      ((1, 0, -1), (-1, 1, 0), (-1, 1, 0)), [(1, 0, -1), (0, -1, 1), (-1, 1, 0)]):
            self.assertYes(is_greatest_swap, SHELF, value)
        self.assertYes(is_greatest_swap, ALL_PULLS_0, [(1, -1)])
        self.assertYes(is_greatest_swap, ALL_PULLS_0, ([-1, 1],))
        self.assertYes(is_greatest_swap, ONE_FREE, [[1], [-1]])
        self.assertYes(is_greatest_swap, NO_OWN, [(0, 1, 0), (1, 0, 0), (1, 0, 0)])

    def test_as_long_as_the_reach_but_none(self):
        for value in ([(-1, 2, -1), (1, -1, 0), (-1, 1, 0)], [(1, -1, 0), (-1, 1, 0), (1, -2, 1)],
                      [(1, 0, -1), (-1, 0, 1), (1, -2, 1)], [(1, -1, 0)] * 3, [(1, -1, 0), (0, 1, -1), (-1, 0, 2)],
                      [(0, 0, 0), (1, -1, 0), (-1, 1, 0)], [(2, -2, 0), (-1, 0, 1), (0, 0, 0)],
                      [(1, -1, 0, 0), (-1, 0, 1, 0), (0, 1, -1, 0)], [(True, -1, 0), (-1, 0, 1), (0, 1, -1)]):
            self.assertNo(is_greatest_swap, SHELF, value)
        self.assertNo(is_greatest_swap, SHELF, [(1, 0, -1), (-1, 0, 1)])
        self.assertNo(is_greatest_swap, SHELF, [(1, 0, -1), (-1, 1, 0), (-1, 1, 0)] * 2)
        self.assertNo(is_greatest_swap, ALL_PULLS_0, [(2, -2)])
        self.assertNo(is_greatest_swap, ALL_PULLS_0, [(1, -1), (-1, 1)])
        self.assertNo(is_greatest_swap, ONE_FREE, [[2], [-2]])
        self.assertNo(is_greatest_swap, NO_OWN, [(0, 0, 1)])
        # Its pulls are two least lots together: no least one, and as long as the reach.
        table = Table((0, 0, 0), (1, 2, 3))
        self.assertEqual(reach(table), 5)
        self.assertNo(is_greatest_swap, table, [(0, 0, 1), (-1, 0, 0), (0, -1, 0), (0, 1, 0), (0, -1, 0)])
        self.assertNo(is_greatest_swap, table, [(0, 0, 1), (-1, 0, 0), (-1, 0, 0), (-1, 0, 0)])
        self.assertNo(is_greatest_swap, table, [(0, 1, 0), (1, 0, 0), (-1, 0, 0), (-1, 0, 0), (-1, 0, 0)])
        self.assertYes(is_greatest_swap, table, [(0, 0, 1), (0, 0, 1)] + [(0, -1, 0)] * 3)

    def test_any_value(self):
        for table in (SHELF, RANK_0, ALL_PULLS_0, ONE_FREE):
            for value in NO_LISTS + [[], (), [[]], [()], [1, -1], [[1, -1, 0], None, [1]]]:
                self.assertNo(is_greatest_swap, table, value)
        for value in NO_ROWS:
            self.assertNo(is_greatest_swap, SHELF, [(1, -1, 0), value, (0, 1, -1)])
            self.assertNo(is_greatest_swap, ALL_PULLS_0, [value])

    def test_errors(self):
        for value in NO_TABLES:
            for function in (reach, greatest_lot, greatest_swap):
                self.assertInvalid(InvalidTable, value, function, value)
            self.assertInvalid(InvalidTable, value, is_greatest_swap, value, [])
        for table, what, limit in ((TABLE_204, "changes", 200), (LOTS_301, "lots", 300)):
            for function in (reach, greatest_lot, greatest_swap):
                self.assertTooMany(what, limit, function, table)
            for value in ([], None, [(1, -1)], [(0,) * table.columns]):
                self.assertTooMany(what, limit, is_greatest_swap, table, value)
        self.assertEqual(reach(LOTS_300), max([sum([many for _, many in lot]) for lot in least_lots(LOTS_300)]))
        self.assertYes(is_greatest_swap, LOTS_300, greatest_swap(LOTS_300))


if __name__ == "__main__":
    unittest.main()
