"""Swaps, what is within them, and their things [35], [36]."""

import itertools
import random
import unittest

from likestreets import swaps as module
from likestreets.errors import InvalidSwap, InvalidTable
from likestreets.lots import is_least_lot, is_lot
from likestreets.parted import few_parts
from likestreets.swaps import is_least_swap, is_swap, is_swap_within, swap_within, things
from likestreets.tables import Table
from helpers import (
    GREAT, LOTS_301, NO_LISTS, NO_OWN, NO_ROWS, NO_TABLES, ONE_FREE, RANK_0, SHELF, TABLE_196, TABLE_204, TWO_WAYS, Case,
    plain_least, plain_lots, plain_pulls, plain_swaps_within, plain_within, plain_worth,
)

THREE = [(-1, 1, 0), (0, -1, 1), [1, 0, -1]]
NO_SWAPS = NO_LISTS + [
    [], (), [(1, 0, -1)], [(0, 0, 0)], [(1, -1, 0), (-1, 1, 0), (0, 0, 0)], [(1, 0, 0), (-1, 0, 0)], [(1, -1), (-1, 1)],
    [(1, -1, 0), None], [[True, -1, 0], [-1, 1, 0]], [[1, -1, False], [-1, 1, 0]], [1, -1, 0], (1, -1, 0), [[]], ["abc"],
    [(1, -1, 0), (0, 1, -1)], [(1, -1, 0, 0), (-1, 1, 0, 0)], [[[1, -1, 0]], [[-1, 1, 0]]], [SHELF],
    [(1, -2, 1)] * 61, [(1, -1, 0), (-1, 1, 0)] * 31, [(GREAT, -GREAT, 0), (-GREAT, GREAT, 1)],
]


def some_swaps(seed, many, parts):
    """Swaps of tables with few columns, each change a sum of some fitting least changes."""
    source = random.Random(seed)
    found = []
    while len(found) < many:
        columns = source.randint(1, 3)
        table = Table([source.randint(-3, 4) for _ in range(columns)], [source.randint(-4, 4) for _ in range(columns)])
        known = plain_least(table.own)
        if known:
            swap = [source.choice(known) for _ in range(source.randint(1, 4))]
            for _ in range(parts):
                at = source.randrange(len(swap))
                swap[at] = tuple([a + b for a, b in zip(swap[at], source.choice(known))])
            if all([any(change) for change in swap]):
                if sum([plain_worth(change, table.common) for change in swap]) == 0:
                    found.append((table, swap))
    return found


class TestIsSwap(Case):
    def test_interface(self):
        names = ("is_swap", "is_least_swap", "swap_within", "is_swap_within", "things")
        self.assertDefinedIn(module, *names)
        self.assertParameters(is_swap, "table", "value")
        self.assertParameters(is_least_swap, "table", "value")
        self.assertParameters(swap_within, "table", "swap")
        self.assertParameters(is_swap_within, "table", "swap", "value")
        self.assertParameters(things, "table", "swap")

    def test_is_swap(self):
        self.assertNo(is_swap, SHELF, [(1, 0, -1)])
        for value in (THREE, tuple(THREE), [(-1, 2, -1)], [[1, -1, 0], (-1, 1, 0)], [(1, -2, 1)] * 60,
                      [(GREAT, -GREAT, 0), (-GREAT, GREAT, 0)], [(2, -2, 0), (-1, 0, 1)]):
            self.assertYes(is_swap, SHELF, value)
        for value in NO_SWAPS:
            self.assertNo(is_swap, SHELF, value)
            self.assertNo(is_swap, RANK_0, value)
        for value in NO_ROWS:
            self.assertNo(is_swap, SHELF, [(1, -2, 1), value])
            self.assertNo(is_swap, SHELF, (value, (1, -2, 1)))
        self.assertYes(is_swap, ONE_FREE, [[1], [1], [-2]])
        self.assertNo(is_swap, ONE_FREE, [[1], [1], [-1]])
        self.assertYes(is_swap, TABLE_204, [(0, 1, -1, 0, 0, 0)])
        self.assertNo(is_swap, TABLE_204, [(0, 1, 1, 0, 0, 0)])

    def test_one_to_sixty_changes(self):
        pair = [(1, -1, 0), (-1, 1, 0)]
        for many in (1, 2, 29, 30):
            self.assertYes(is_swap, SHELF, pair * many)
        self.assertNo(is_swap, SHELF, pair * 31)
        self.assertYes(is_swap, SHELF, [(1, -2, 1)] * 59)
        self.assertNo(is_swap, SHELF, [(1, -2, 1)] * 61)

    def test_errors(self):
        for value in NO_TABLES:
            for function in (is_swap, is_least_swap, swap_within, things):
                self.assertInvalid(InvalidTable, value, function, value, None)
            self.assertInvalid(InvalidTable, value, is_swap_within, value, None, None)
        for value in NO_SWAPS:
            self.assertInvalid(InvalidSwap, value, swap_within, SHELF, value)
            self.assertInvalid(InvalidSwap, value, things, SHELF, value)
            self.assertInvalid(InvalidSwap, value, is_swap_within, SHELF, value, None)
            self.assertNo(is_least_swap, SHELF, value)
            self.assertNo(is_least_swap, RANK_0, value)
        for value in NO_LISTS + [[], [(1, 0, 0, 0, 0, 0)], [[0] * 6]]:
            self.assertInvalid(InvalidSwap, value, things, TABLE_204, value)


class TestWithin(Case):
    def check_within(self, table, swap):
        """What is told is within the swap by the words of the document, of the kinds that it tells."""
        before = [list(change) for change in swap]
        found = swap_within(table, swap)
        self.assertEqual([list(change) for change in swap], before)
        self.assertRows(found)
        self.assertEqual(len(found), len(swap))
        for row, change in zip(found, swap):
            self.assertEqual(plain_worth(row, table.own), 0)
            self.assertTrue(all([a == 0 or (a * b > 0 and abs(a) <= abs(b)) for a, b in zip(row, change)]))
        self.assertEqual(sum([plain_worth(row, table.common) for row in found]), 0)
        self.assertTrue(any([any(row) for row in found]))
        self.assertNotEqual(found, [tuple(change) for change in swap])
        self.assertYes(is_swap_within, table, swap, found)
        self.assertNo(is_least_swap, table, swap)
        swap_within(table, swap).append(3)
        self.assertEqual(swap_within(table, swap), found)

    def check_least(self, table, swap):
        self.assertYes(is_least_swap, table, swap)
        self.assertGives(None, swap_within, table, swap)

    def test_told_ones(self):
        self.check_least(SHELF, THREE)
        self.check_least(SHELF, [(-1, 2, -1)])
        self.check_least(SHELF, ((1, -1, 0), (-1, 1, 0)))
        self.check_least(NO_OWN, [(0, 0, -1)])
        self.check_least(ONE_FREE, [[1], [-1]])
        self.check_within(ONE_FREE, [[2], [-2]])
        self.check_within(ONE_FREE, [[1], [1], [-2]])
        self.check_within(SHELF, [(-2, 4, -2)])
        self.check_within(SHELF, [(-1, 1, 0), (1, -1, 0), (-2, 2, 0), (2, -2, 0)])
        self.check_within(SHELF, [(-1, 2, -1), (1, -2, 1)])
        self.check_within(NO_OWN, [(0, 0, 2)])
        self.check_within(NO_OWN, [(2, 1, 0)] * 60)
        self.check_within(Table((1, 1), (1, 1)), [(1, -1), (1, -1)])
        self.check_least(Table((1, 1), (1, 1)), [(1, -1)])

    def test_by_all_lists_of_rows(self):
        least = 0
        for parts in (0, 0, 1, 1, 2, 3):
            for table, swap in some_swaps(10 + parts, 60, parts):
                many = 1
                for change in swap:
                    many *= len(plain_within(table.own, change))
                if many <= 3000:
                    within = plain_swaps_within(table, swap)
                    if within:
                        self.check_within(table, swap)
                        for rows in within[:4]:
                            self.assertYes(is_swap_within, table, swap, rows)
                    else:
                        self.check_least(table, swap)
                        least += 1
        self.assertGreater(least, 20)

    def test_least_changes_with_the_pulls_of_lots(self):
        for table in (SHELF, TWO_WAYS, NO_OWN, Table((0, 0, 0), (2, 3, 1)), Table((1, 1, 2), (0, 2, 3))):
            by_pull = {}
            for row in plain_least(table.own):
                by_pull.setdefault(plain_worth(row, table.common), []).append(row)
            source = random.Random(2)
            for lot in plain_lots(plain_pulls(table)):
                swap = [source.choice(by_pull[number]) for number, many in lot for _ in range(many)]
                source.shuffle(swap)
                self.check_least(table, swap)
                if len(swap) < 30:
                    self.check_within(table, swap + swap)

    def test_great_least_swaps(self):
        table = Table((3, 4, 0), (4, -4, 1))
        self.check_least(table, [(4, -3, 0)] + [(0, 0, -1)] * 28)
        self.check_least(table, [(0, 0, -1)] * 27 + [(4, -3, 0), (0, 0, -1)])
        self.check_least(table, [(4, -3, -28)])
        self.check_least(table, [(4, -3, -14), (0, 0, -14)])
        self.check_within(table, [(8, -6, 0)] + [(0, 0, -1)] * 56)
        self.check_within(table, [(8, -6, -28), (0, 0, -28)])
        self.check_least(Table((3, 4, 0), (4, -4, 3)), [(4, -3, 0)] * 3 + [(0, 0, -1)] * 28)

    def test_sixty_changes(self):
        self.check_within(SHELF, [(1, -2, 1)] * 60)
        self.check_within(SHELF, [(1, -1, 0)] * 40 + [(-1, 0, 1)] * 20)
        self.check_within(SHELF, [(5, -5, 0)] * 40 + [(-5, 0, 5)] * 20)
        self.check_within(ONE_FREE, [[1999]] * 30 + [[-1999]] * 30)
        free = Table((0, 0), (1, -4))
        self.check_within(free, [(1999, 0)] * 48 + [(0, 1999)] * 12)
        self.check_within(free, [(1, 0)] * 59 + [(1, 15)])

    def test_choices(self):
        self.check_within(ONE_FREE, [[1999], [-1999]])
        free = Table((0, 0), (1, 1))
        self.check_within(free, [(39, -49), (10, 0)])
        for function in (swap_within, is_least_swap):
            self.assertTooMany("choices", 2000, function, ONE_FREE, [[2000], [-2000]])
            self.assertTooMany("choices", 2000, function, ONE_FREE, [[1], [-1], [2000], [-2000]])
            self.assertTooMany("choices", 2000, function, free, [(39, -50), (11, 0)])
            self.assertTooMany("choices", 2000, function, NO_OWN, [(22, 2, 28), (-18, 0, 0)])
            self.assertTooMany("choices", 2000, function, SHELF, [(1, -2, 1), (44, -44, 0), (-44, 44, 0)])
            self.assertTooMany("choices", 2000, function, SHELF, [(GREAT, -2 * GREAT, GREAT)])
        self.assertNo(is_least_swap, ONE_FREE, [[2000], [-2001]])
        self.assertInvalid(InvalidSwap, [[2000], [-2001]], swap_within, ONE_FREE, [[2000], [-2001]])

    def test_many_least_changes_or_lots_are_no_matter(self):
        self.check_least(TABLE_204, [(0, 1, -1, 0, 0, 0)])
        self.check_within(TABLE_204, [(0, 1, -1, 0, 0, 0)] * 2)
        self.assertYes(is_swap_within, TABLE_204, [(0, 1, -1, 0, 0, 0)] * 2, [[0] * 6, (0, 1, -1, 0, 0, 0)])
        self.check_least(LOTS_301, [(0, 0, 1, 0), (0, 0, -1, 0)])
        self.check_within(LOTS_301, [(0, 0, 2, 0), (0, 0, -1, 0), (0, 0, -1, 0)])
        self.assertGives([(-4, 2), (4, 2)], things, LOTS_301, [(0, 0, 2, 0), (0, 0, -2, 0)])

    def test_is_swap_within(self):
        swap = [(-1, 1, 0), (1, -1, 0), (-2, 2, 0), (2, -2, 0)]
        nought = (0, 0, 0)
        for value in ([nought, nought, (-1, 1, 0), (1, -1, 0)], ([0, 0, 0], nought, [-2, 2, 0], (2, -2, 0)),
                      [(-1, 1, 0), (1, -1, 0), nought, nought], [(-1, 1, 0), (1, -1, 0), (-1, 1, 0), (1, -1, 0)]):
            self.assertYes(is_swap_within, SHELF, swap, value)
            self.assertYes(is_swap_within, SHELF, tuple(swap), tuple(value))
        for value in (swap, [list(change) for change in swap], tuple(swap), [nought] * 4, [[0, 0, 0]] * 4,
                      [nought, nought, (-1, 1, 0), (2, -2, 0)], [(1, -1, 0), (-1, 1, 0), nought, nought],
                      [nought, nought, (-1, 1, 0)], [nought, nought, (-1, 1, 0), (1, -1, 0), nought], [],
                      [(-2, 2, 0), (2, -2, 0), nought, nought], [nought, nought, (-1, 0, 1), (1, 0, -1)],
                      [nought, nought, (-1, 0, 0), (1, 0, 0)], [nought, (-1, 1, 0), (1, -1, 0), nought],
                      [(-1, 1, 0), (1, -1, 0), (0, 0), (0, 0)], [nought, nought, (-1, 1, 0), [True, -1, 0]],
                      [nought, [0, False, 0], (-1, 1, 0), (1, -1, 0)]):
            self.assertNo(is_swap_within, SHELF, swap, value)
        for value in NO_LISTS + NO_SWAPS:
            self.assertNo(is_swap_within, SHELF, swap, value)
        for value in NO_ROWS:
            self.assertNo(is_swap_within, SHELF, swap, [value, nought, (-1, 1, 0), (1, -1, 0)])
        great = [(GREAT, -GREAT, 0), (-GREAT, GREAT, 0)]
        self.assertYes(is_swap_within, SHELF, great, [(1, -1, 0), (-1, 1, 0)])
        self.assertYes(is_swap_within, SHELF, great, [(GREAT - 1, 1 - GREAT, 0), (1 - GREAT, GREAT - 1, 0)])
        self.assertNo(is_swap_within, SHELF, great, great)


class TestThings(Case):
    def check_things(self, table, swap):
        before = [list(change) for change in swap]
        found = things(table, swap)
        self.assertEqual([list(change) for change in swap], before)
        self.assertIs(type(found), list)
        self.assertEqual(found, sorted(found))
        self.assertYes(is_lot, table, found)
        for entry in found:
            self.assertTupleOfIntegers(entry)
        things(table, swap).append(1)
        self.assertEqual(things(table, swap), found)
        return found

    def test_told_ones(self):
        self.assertGives([(-2, 1), (2, 1)], things, SHELF, [(1, 0, -1), (-1, 0, 1)])
        self.assertGives([(-1, 1), (1, 1)], things, SHELF, [[-1, 2, -1]])
        self.assertGives([(-2, 1), (1, 2)], things, SHELF, THREE)
        self.assertGives([(-1, GREAT), (1, GREAT)], things, SHELF, ((GREAT, -GREAT, 0), (-GREAT, GREAT, 0)))
        self.assertGives([(0, 5)], things, Table((1, 1), (1, 1)), [(2, -2), (-3, 3)])
        self.assertGives([(-2, 7), (2, 7)], things, ONE_FREE, [[3], [4], [-7]])
        self.assertGives([(0, 1)], things, TABLE_196, [(0, 1, -1, 0, 0, 0)])
        self.assertGives([(0, 60)], things, Table((1, 1), (1, 1)), [(1, -1)] * 60)

    def test_things_of_partings(self):
        for parts in (0, 1, 2, 4):
            for table, swap in some_swaps(30 + parts, 40, parts):
                found = self.check_things(table, swap)
                self.assertIn(tuple(found), self.all_things(table, swap))
                many = sum([often for number, often in found])
                self.assertGreaterEqual(many, sum([few_parts(table, change) for change in swap]))
                if is_least_swap(table, swap):
                    self.assertEqual(self.lots_within(found), 1)

    def all_things(self, table, swap):
        """The lots of all partings of all changes of the swap."""
        ways = [self.all_partings(plain_least(table.own), tuple(change)) for change in swap]
        found = set()
        for parts in itertools.product(*ways):
            pulls = [plain_worth(row, table.common) for part in parts for row in part]
            found.add(tuple(sorted([(number, pulls.count(number)) for number in set(pulls)])))
        return found

    def lots_within(self, lot):
        """How many lots are within the lot, itself too."""
        counted = 0
        for often in itertools.product(*[range(many + 1) for number, many in lot]):
            counted += any(often) and sum([number * many for (number, _), many in zip(lot, often)]) == 0
        return counted

    def all_partings(self, known, change):
        if not any(change):
            return [[]]
        found = []
        for at, row in enumerate(known):
            if all([a == 0 or (a * b > 0 and abs(a) <= abs(b)) for a, b in zip(row, change)]):
                left = tuple([b - a for a, b in zip(row, change)])
                found += [[row] + rest for rest in self.all_partings(known[at:], left)]
        return found

    def test_least_exactly_if_the_pulls_are_a_least_lot(self):
        source = random.Random(7)
        for table in (SHELF, TWO_WAYS, Table((1, 1, 2), (0, 2, 3))):
            known = plain_least(table.own)
            for _ in range(300):
                swap = source.choices(known, k=source.randint(1, 5))
                if is_swap(table, swap):
                    self.assertEqual(is_least_swap(table, swap), is_least_lot(table, things(table, swap)))

    def test_changes_come_behind_the_swap(self):
        self.assertTooMany("changes", 200, things, TABLE_204, [(0, 1, -1, 0, 0, 0)])
        value = [(0, 1, 1, 0, 0, 0)]
        self.assertInvalid(InvalidSwap, value, things, TABLE_204, value)


if __name__ == "__main__":
    unittest.main()
