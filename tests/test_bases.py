"""Rank, bases, minors and spanning [14] to [17]."""

import itertools
import math
import random
import unittest

from likestreets import bases
from likestreets.bases import basis, divisor, is_basis, rank, spans, sums_in
from likestreets.errors import InvalidBasis, InvalidChange, InvalidChanges, InvalidRows, InvalidTable
from likestreets.tables import Table, is_change
from helpers import GREAT, NO_LISTS, NO_OWN, NO_ROWS, NO_TABLES, ONE_FREE, RANK_0, SHELF, Case, plain_least


def leibniz(rows):
    """The determinant as a sum over all arrangements."""
    total = 0
    for order in itertools.permutations(range(len(rows))):
        product = 1
        for row, place in enumerate(order):
            product *= rows[row][place]
        turns = sum([order[i] > order[j] for i in range(len(order)) for j in range(i + 1, len(order))])
        total += product if turns % 2 == 0 else -product
    return total


def plain_divisor(rows):
    found = 0
    for places in itertools.combinations(range(len(rows[0])), len(rows)):
        found = math.gcd(found, leibniz([[row[place] for place in places] for row in rows]))
    return found


def plain_spans(table, rows):
    """By the fact of [17]: the divisor of all minors of all lists of as many as the rank."""
    many = table.columns - int(any(table.own))
    if many == 0:
        return True
    found = 0
    for some in itertools.combinations(rows, many):
        found = math.gcd(found, plain_divisor(some))
    return found == 1


def added(rows, sums, columns):
    total = [0] * columns
    for row, number in zip(rows, sums):
        total = [a + number * b for a, b in zip(total, row)]
    return tuple(total)


def some_tables(seed, many):
    source = random.Random(seed)
    for _ in range(many):
        columns = source.randint(1, 6)
        yield source, Table(*[[source.randint(-4, 4) for _ in range(columns)] for _ in range(2)])


class TestRankAndBasis(Case):
    def test_interface(self):
        self.assertDefinedIn(bases, "rank", "basis", "is_basis", "sums_in", "divisor", "spans")
        self.assertParameters(rank, "table")
        self.assertParameters(basis, "table")
        self.assertParameters(is_basis, "table", "value")
        self.assertParameters(sums_in, "table", "basis", "change")
        self.assertParameters(divisor, "rows")
        self.assertParameters(spans, "table", "rows")

    def test_rank(self):
        self.assertGives(2, rank, SHELF)
        self.assertGives(3, rank, NO_OWN)
        self.assertGives(0, rank, RANK_0)
        self.assertGives(1, rank, ONE_FREE)
        self.assertGives(5, rank, Table([0, 0, 0, 0, 0, 4], [0] * 6))
        self.assertGives(6, rank, Table([0] * 6, [4] * 6))

    def test_basis_is_one(self):
        for own in itertools.product(range(-4, 5), repeat=2):
            self.check_basis(Table(own, own))
        for source, table in some_tables(1, 150):
            self.check_basis(table)
        for table in (SHELF, NO_OWN, ONE_FREE, Table([0] * 6, [0] * 6), Table([4, 4, 4, 4, 4, 3], [0] * 6)):
            self.check_basis(table)
        self.assertGives([], basis, RANK_0)

    def check_basis(self, table):
        found = basis(table)
        self.assertRows(found)
        self.assertEqual(len(found), rank(table))
        self.assertYes(is_basis, table, found)
        for row in found:
            self.assertYes(is_change, table, row)
        if found:
            self.assertEqual(plain_divisor(found), 1)
        self.assertEqual(basis(table), found)
        spoiled = basis(table)
        spoiled.append(1)
        self.assertEqual(basis(table), found)

    def test_is_basis(self):
        self.assertYes(is_basis, Table([2, 3], [0, 1]), [(3, -2)])
        self.assertYes(is_basis, Table([2, 3], [0, 1]), ([-3, 2],))
        self.assertNo(is_basis, Table([2, 3], [0, 1]), [(6, -4)])
        self.assertNo(is_basis, Table([2, 3], [0, 1]), [(0, 0)])
        self.assertNo(is_basis, Table([2, 3], [0, 1]), [])
        self.assertNo(is_basis, Table([2, 3], [0, 1]), [(3, -2), (3, -2)])
        self.assertYes(is_basis, SHELF, ((1, -1, 0), [0, 1, -1]))
        self.assertNo(is_basis, SHELF, [[1, -1, 0], (1, 1, -2)])
        self.assertNo(is_basis, SHELF, [[1, -1, 0]])
        self.assertNo(is_basis, SHELF, [[1, -1, 0], [-1, 1, 0]])
        self.assertNo(is_basis, SHELF, [[1, -1, 0], [0, 1, -1], [1, 0, -1]])
        self.assertNo(is_basis, SHELF, [[1, 0, 0], [0, 1, 0]])
        self.assertNo(is_basis, SHELF, [[1, -1], [0, 1]])
        self.assertYes(is_basis, RANK_0, [])
        self.assertYes(is_basis, RANK_0, ())
        self.assertNo(is_basis, RANK_0, [[0]])
        self.assertYes(is_basis, ONE_FREE, [[-1]])
        self.assertNo(is_basis, ONE_FREE, [[2]])
        self.assertYes(is_basis, NO_OWN, [[1, 0, 0], [GREAT, 1, 0], [GREAT, GREAT, -1]])
        self.assertNo(is_basis, NO_OWN, [[1, 0, 0], [GREAT, 2, 0], [GREAT, GREAT, -1]])

    def test_is_basis_of_any_value(self):
        for table in (SHELF, NO_OWN, ONE_FREE):
            for value in NO_LISTS + [[], (), [True], [[True, -1, 0], [0, 1, -1]], [None, None], ["a", "b"]]:
                self.assertNo(is_basis, table, value)
        for value in NO_LISTS + [[True], [[]], [False], [[3]], [None]]:
            self.assertNo(is_basis, RANK_0, value)
        for value in NO_ROWS:
            self.assertNo(is_basis, SHELF, [(1, -1, 0), value])
            self.assertNo(is_basis, SHELF, (value, (1, -1, 0)))

    def test_invalid_tables(self):
        for value in NO_TABLES:
            self.assertInvalid(InvalidTable, value, rank, value)
            self.assertInvalid(InvalidTable, value, basis, value)
            self.assertInvalid(InvalidTable, value, is_basis, value, None)
            self.assertInvalid(InvalidTable, value, sums_in, value, None, None)
            self.assertInvalid(InvalidTable, value, spans, value, None)


class TestSums(Case):
    def test_sums_in(self):
        self.assertGives([1, -1], sums_in, SHELF, [[1, -1, 0], [0, 1, -1]], [1, -2, 1])
        self.assertGives([0, 0], sums_in, SHELF, ((1, -1, 0), (0, 1, -1)), (0, 0, 0))
        self.assertGives([], sums_in, RANK_0, [], [0])
        self.assertGives([], sums_in, RANK_0, (), (0,))
        self.assertGives([-GREAT], sums_in, ONE_FREE, [(-1,)], [GREAT])
        self.assertGives([GREAT], sums_in, Table([2, 3], [0, 0]), [[-3, 2]], [-3 * GREAT, 2 * GREAT])

    def test_sums_of_many(self):
        for source, table in some_tables(2, 120):
            rows = basis(table)
            for _ in range(3):
                sums = [source.randint(-GREAT, GREAT) for _ in rows]
                self.assertGives(sums, sums_in, table, rows, added(rows, sums, table.columns))
            for change in plain_least(table.own)[:3] if table.columns < 5 else []:
                self.assertEqual(added(rows, sums_in(table, rows, change), table.columns), change)

    def test_great_bases(self):
        rows = [[1, 0, 0], [GREAT, 1, 0], [GREAT, GREAT, -1]]
        for sums in ([1, 2, 3], [GREAT, -GREAT, GREAT], [0, 0, 0]):
            self.assertGives(sums, sums_in, NO_OWN, rows, added(rows, sums, 3))

    def test_which_error_comes_first(self):
        for value in NO_LISTS + [[], [(1, -1, 0)], [[1, -1, 0], (1, 1, -2)], [[True, -1, 0], [0, 1, -1]]]:
            self.assertInvalid(InvalidBasis, value, sums_in, SHELF, value, None)
            self.assertInvalid(InvalidBasis, value, sums_in, SHELF, value, [1, -1, 0])
        for value in NO_ROWS + [[1, 0, 0], [1, -1], [1, -1, 0, 0]]:
            self.assertInvalid(InvalidChange, value, sums_in, SHELF, [(1, -1, 0), (0, 1, -1)], value)
        self.assertInvalid(InvalidChange, [1], sums_in, RANK_0, [], [1])


class TestDivisor(Case):
    def test_divisor(self):
        self.assertGives(2, divisor, [[1, 2, 3], [1, 0, 1]])
        self.assertGives(3, divisor, [(0, 3, -6)])
        self.assertGives(5, divisor, ((-5,),))
        self.assertGives(0, divisor, [[0, 0]])
        self.assertGives(0, divisor, [[1, 2], [2, 4]])
        self.assertGives(0, divisor, [[1], [2]])
        self.assertGives(0, divisor, [[1, 2], [3, 4], [5, 6]])
        self.assertGives(2, divisor, [[1, 2], (3, 4)])
        self.assertGives(64, divisor, [[2 * int(i == j) for j in range(6)] for i in range(6)])
        self.assertGives(GREAT ** 6, divisor, [[GREAT * int(i == j) for j in range(6)] for i in range(6)])
        self.assertGives(0, divisor, [[0] * 6] * 6)
        self.assertGives(GREAT, divisor, [[GREAT, 2 * GREAT, -3 * GREAT]])

    def test_divisor_by_all_arrangements(self):
        source = random.Random(5)
        for size in (2, 3, 9, GREAT):
            for _ in range(25):
                columns, many = source.randint(1, 6), source.randint(1, 5)
                rows = [[source.randint(-size, size) for _ in range(columns)] for _ in range(many)]
                self.assertGives(plain_divisor(rows), divisor, rows)

    def test_invalid_rows(self):
        wrong = [[], (), [[1]] * 7, [[1, 2], [1]], [[1], [1, 2]], [[1, 2], [3, 4], [5]], [[]], [[1] * 7], [1],
                 [[1, True]], [[False]], [[1], None], ["12", "34"], [(1, 2), {1: 2}], [[[1]]], [SHELF]]
        for value in NO_LISTS + wrong:
            self.assertInvalid(InvalidRows, value, divisor, value)


class TestSpans(Case):
    def test_spans(self):
        self.assertYes(spans, SHELF, [[1, -1, 0], [1, 1, -2], [0, 3, -3]])
        self.assertNo(spans, SHELF, [[1, -1, 0], [1, 1, -2]])
        self.assertNo(spans, SHELF, [[1, -1, 0], [-1, 1, 0], [2, -2, 0]])
        self.assertNo(spans, SHELF, [])
        self.assertNo(spans, SHELF, [[0, 0, 0]])
        self.assertYes(spans, SHELF, ((1, -1, 0), (0, 0, 0), (0, 1, -1), (0, 1, -1)))
        self.assertYes(spans, RANK_0, [])
        self.assertYes(spans, RANK_0, ([0], (0,)))
        self.assertNo(spans, ONE_FREE, [])
        self.assertYes(spans, ONE_FREE, [[6], [10], [15]])
        self.assertNo(spans, ONE_FREE, [[6], [10], [14]])
        self.assertYes(spans, ONE_FREE, [[GREAT], [GREAT + 1]])
        self.assertNo(spans, ONE_FREE, [[GREAT], [3 * GREAT]])

    def test_spans_as_the_fact_tells(self):
        for source, table in some_tables(6, 150):
            least = plain_least(table.own) if table.columns < 5 else basis(table)
            for many in range(0, 7):
                rows = [source.choice(least) for _ in range(many) if least]
                self.check_spans(table, rows)
                self.check_spans(table, [added((row, some), (2, 3), table.columns)
                                         for row, some in zip(rows, rows[1:] + rows[:1])])

    def check_spans(self, table, rows):
        self.assertGives(plain_spans(table, rows), spans, table, rows)

    def test_spans_with_all_least_changes(self):
        for source, table in some_tables(7, 40):
            if table.columns < 5:
                least = plain_least(table.own)
                if len(least) <= 60:
                    self.assertYes(spans, table, least)
                    self.assertYes(spans, table, tuple(least[::-1]))
                    doubled = [added((row,), (2,), table.columns) for row in least]
                    self.assertGives(rank(table) == 0, spans, table, doubled)

    def test_sixty_rows(self):
        rows = [[6 * k, -6 * k, 0] for k in range(1, 59)]
        self.assertYes(spans, SHELF, rows + [[1, -1, 0], [0, 1, -1]])
        self.assertNo(spans, SHELF, rows + [[2, -2, 0], [0, 2, -2]])
        self.assertYes(spans, SHELF, rows + [[35, -35, 0], (0, 1, -1)])
        self.assertInvalid(InvalidChanges, rows + [[1, -1, 0]] * 3, spans, SHELF, rows + [[1, -1, 0]] * 3)

    def test_sixty_great_rows(self):
        source = random.Random(8)
        table = Table([1, 2, 3, 4, 0, -1], [0] * 6)
        rows = []
        for _ in range(60):
            sums = [source.randint(-10 ** 14, 10 ** 14) for _ in range(5)]
            rows.append(added(basis(table), sums, 6))
        self.assertYes(spans, table, rows)
        self.assertNo(spans, table, [added((row,), (7,), 6) for row in rows])

    def test_invalid_changes(self):
        wrong = [[[1, 0, 0]], [[1, -1, 0], None], [[True, -1, 0]], [(1, -1)], [[1, -1, 0], [1, -1, 0, 0]], [1, -1, 0],
                 (1, -1, 0), [[0, 0, 0]] * 61, ((0, 0, 0),) * 61, [[]], ["abc"], [SHELF], [[False, 0, 0]]]
        for value in NO_LISTS + wrong:
            self.assertInvalid(InvalidChanges, value, spans, SHELF, value)
        self.assertNo(spans, SHELF, [[0, 0, 0]] * 60)


if __name__ == "__main__":
    unittest.main()
