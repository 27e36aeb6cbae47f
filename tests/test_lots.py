"""Lots and least lots [32], [33]."""

import itertools
import random
import unittest

from likestreets import lots as module
from likestreets.errors import InvalidLot, InvalidTable
from likestreets.lots import inner_lot, is_least_lot, is_lot, is_lot_parts, least_lots, lot_parts
from likestreets.pulls import pulls
from likestreets.tables import Table
from helpers import (
    GREAT, LOTS_300, LOTS_301, NO_INTEGERS, NO_LISTS, NO_OWN, NO_TABLES, ONE_FREE, RANK_0, SHELF, TABLE_196,
    TABLE_204, Case, Thing, lot_in, plain_lots, plain_pulls,
)

ALL_FOUR = [[(-2, 1), (1, 2)], [(-2, 1), (2, 1)], [(-1, 1), (1, 1)], [(-1, 2), (2, 1)]]
NO_LOTS = NO_LISTS + [
    [], (), [(2, 1), (-1, 1)], [(1, 1)], [(1, 1), (-1, 2)], [[1, 1], [-1, 1]], [(1, 1), [-1, 1]], [(1, 1), (-1, True)],
    [(True, 1), (-1, 1)], [(1, 0), (-1, 0)], [(1, -1), (-1, -1)], [(3, 1), (-3, 1)], [(0, 1)], [(1, 1), (-1, 1), (0, 1)],
    [(1, 1), (1, 1), (-1, 2)], [(1, 1), (1, 1), (-2, 1)], [(1, 2), (-1, 1), (-1, 1)], [(1, 1, 1), (-1, 1, 1)],
    [(1,), (-1,)], [1, -1], (1, 1), [None], [(None, 1)], [(1, None), (-1, None)], [("1", 1), (-1, 1)],
    [(1, "1"), (-1, 1)], [((1,), 1), (-1, 1)], [(1, 1), (-1, 1), None], [(1, 1), (-1, 1), ()], [Thing()], ["ab"],
    [(GREAT, 1), (-GREAT, 1)], [(1, GREAT), (-1, GREAT - 1)], [[(1, 1), (-1, 1)]], [{1: 1}],
]


def some_tables(seed, many):
    """Tables with few least changes and small pulls."""
    source = random.Random(seed)
    found = []
    while len(found) < many:
        columns = source.randint(1, 4)
        table = Table([source.randint(-3, 3) for _ in range(columns)], [source.randint(-2, 2) for _ in range(columns)])
        if max([0] + plain_pulls(table)) <= 4:
            found.append(table)
    return source, found


class TestLots(Case):
    def test_interface(self):
        names = ("is_lot", "is_least_lot", "least_lots", "inner_lot", "lot_parts", "is_lot_parts")
        self.assertDefinedIn(module, *names)
        self.assertParameters(is_lot, "table", "value")
        self.assertParameters(is_least_lot, "table", "value")
        self.assertParameters(least_lots, "table")
        self.assertParameters(inner_lot, "table", "lot")
        self.assertParameters(lot_parts, "table", "lot")
        self.assertParameters(is_lot_parts, "table", "lot", "value")

    def test_is_lot(self):
        for value in ([(1, 1), (-1, 1)], ((-1, 3), (1, 3)), [(2, 1), (1, 1), (-1, 3)], [(1, GREAT), (-1, GREAT)],
                      [(2, 1), (-2, 2), (1, 2)], [(-2, 1), (1, 2)], [(1, 2), (-2, 1)]):
            self.assertYes(is_lot, SHELF, value)
        for value in NO_LOTS:
            self.assertNo(is_lot, SHELF, value)
        self.assertYes(is_lot, NO_OWN, [(0, 1)])
        self.assertYes(is_lot, NO_OWN, [(0, GREAT), (1, 2), (-2, 1)])
        self.assertNo(is_lot, NO_OWN, [(False, 1)])
        self.assertNo(is_lot, NO_OWN, [(0, 0)])
        self.assertNo(is_lot, NO_OWN, [(0, 1), (0, 1)])
        for value in NO_LOTS:
            self.assertNo(is_lot, RANK_0, value)
        self.assertNo(is_lot, LOTS_301, [(1, 1), (-1, 1)])
        self.assertYes(is_lot, LOTS_301, [(3, 1), (-3, 1)])

    def test_least_lots_told(self):
        self.assertGives(ALL_FOUR, least_lots, SHELF)
        self.assertGives([], least_lots, RANK_0)
        self.assertGives([[(0, 1)]], least_lots, Table((1, 1), (1, 1)))
        self.assertGives([[(0, 1)]], least_lots, TABLE_196)
        self.assertGives([[(-2, 1), (2, 1)]], least_lots, ONE_FREE)
        self.assertGives([[(-3, 1), (3, 1)]], least_lots, Table((2, 3), (1, 0)))
        self.assertGives([[(-2, 1), (1, 2)], [(-2, 1), (2, 1)], [(-1, 1), (1, 1)], [(-1, 2), (2, 1)], [(0, 1)]],
                         least_lots, NO_OWN)
        self.assertGives([[(-3, 1), (3, 1)], [(-3, 2), (2, 3)], [(-2, 1), (2, 1)], [(-2, 3), (3, 2)]],
                         least_lots, Table((0, 0), (2, 3)))

    def test_least_lots_by_all_lots(self):
        source, tables = some_tables(1, 40)
        for table in tables + [Table((0, 0, 0), (3, 4, 0)), Table((0, 0, 0, 0), (1, 2, 3, 4))]:
            wanted = plain_lots(plain_pulls(table))
            self.assertGives(wanted, least_lots, table)
            for lot in wanted:
                self.assertYes(is_lot, table, lot)
                self.assertYes(is_least_lot, table, lot[::-1])
                self.assertIn(sorted([(-number, many) for number, many in lot]), wanted)
                self.assertLessEqual(sum([many for number, many in lot]), max(1, 2 * max(pulls(table))))

    def test_least_lots_of_great_pulls(self):
        for table in (Table((3, 4, 0), (4, -4, 3)), Table((1, 2, 4), (4, -4, 1)), Table((0, 0, 0, 0), (1, 2, 3, 4))):
            found = least_lots(table)
            self.assertEqual(found, sorted(found))
            told = [dict(lot) for lot in found]
            for at, lot in enumerate(found):
                self.assertYes(is_lot, table, lot)
                self.assertEqual(lot, sorted(lot))
                self.assertEqual([other for other in told if lot_in(other, told[at])], [told[at]])
        self.assertGives([[(-28, 1), (28, 1)], [(-28, 3), (3, 28)], [(-3, 1), (3, 1)], [(-3, 28), (28, 3)]],
                         least_lots, Table((3, 4, 0), (4, -4, 3)))

    def test_three_hundred_at_most(self):
        found = least_lots(LOTS_300)
        self.assertEqual(len(found), 300)
        self.assertEqual(found, sorted(found))
        self.assertEqual(pulls(LOTS_300), [-15, -11, -4, -3, -1, 0, 1, 3, 4, 11, 15])
        told = [dict(lot) for lot in found]
        for at, lot in enumerate(found):
            self.assertEqual(sum([number * many for number, many in lot]), 0)
            self.assertEqual([other for other in told if lot_in(other, told[at])], [told[at]])
        self.assertEqual(pulls(LOTS_301), [-13, -8, -5, -4, -3, 3, 4, 5, 8, 13])
        self.assertTooMany("lots", 300, least_lots, LOTS_301)
        self.assertTooMany("lots", 300, least_lots, Table((4, 3, 4, 0, 3, 1), (4, 3, 0, -4, -4, 2)))

    def test_is_least_lot(self):
        for lot in ALL_FOUR:
            self.assertYes(is_least_lot, SHELF, lot)
            self.assertYes(is_least_lot, SHELF, tuple(lot[::-1]))
        for value in NO_LOTS + [[(1, 2), (-1, 2)], [(2, 2), (-2, 2)], [(2, 1), (1, 1), (-1, 3)], [(2, 2), (-1, 4)],
                                [(1, GREAT), (-1, GREAT)], [(2, 1), (-2, 1), (1, 1), (-1, 1)]]:
            self.assertNo(is_least_lot, SHELF, value)
        self.assertYes(is_least_lot, NO_OWN, [(0, 1)])
        self.assertNo(is_least_lot, NO_OWN, [(0, 2)])
        self.assertNo(is_least_lot, NO_OWN, [(0, 1), (1, 1), (-1, 1)])
        self.assertNo(is_least_lot, NO_OWN, [(False, 1)])
        self.assertNo(is_least_lot, RANK_0, [(0, 1)])

    def test_is_least_lot_among_all(self):
        known = [[(number, many) for number, many in lot] for lot in ALL_FOUR]
        for counts in itertools.product(range(4), repeat=4):
            lot = [(number, many) for number, many in zip((-2, -1, 1, 2), counts) if many]
            self.assertIs(is_least_lot(SHELF, lot), lot in known)

    def test_inner_lot(self):
        self.assertGives([(-1, 1), (1, 1)], inner_lot, SHELF, [(1, 3), (-1, 3)])
        self.assertGives([(-2, 1), (1, 2)], inner_lot, SHELF, [(1, 2), (-2, 1)])
        self.assertGives([(-2, 1), (1, 2)], inner_lot, SHELF, ((1, 2), (2, 1), (-2, 2)))
        self.assertGives([(-2, 1), (2, 1)], inner_lot, SHELF, [(2, GREAT), (-2, GREAT)])
        self.assertGives([(0, 1)], inner_lot, NO_OWN, [(0, 5)])
        self.assertGives([(-1, 1), (1, 1)], inner_lot, NO_OWN, [(0, 5), (1, 1), (-1, 1)])
        self.assertGives([(-2, 1), (2, 1)], inner_lot, ONE_FREE, [(2, 4), (-2, 4)])

    def test_inner_lot_is_the_first(self):
        source, tables = some_tables(2, 25)
        for table in tables:
            known = plain_lots(plain_pulls(table))
            for _ in range(8 if known else 0):
                lot = self.sum_of(source.choices(known, k=source.randint(1, 4)))
                source.shuffle(lot)
                wanted = [least for least in known if lot_in(dict(least), dict(lot))][0]
                self.assertGives(wanted, inner_lot, table, lot)

    def sum_of(self, some):
        total = {}
        for lot in some:
            for number, many in lot:
                total[number] = total.get(number, 0) + many
        return list(total.items())

    def test_errors(self):
        for value in NO_TABLES:
            for function in (is_lot, is_least_lot, inner_lot, lot_parts):
                self.assertInvalid(InvalidTable, value, function, value, None)
            self.assertInvalid(InvalidTable, value, least_lots, value)
            self.assertInvalid(InvalidTable, value, is_lot_parts, value, None, None)
        for value in NO_LOTS:
            self.assertInvalid(InvalidLot, value, inner_lot, SHELF, value)
            self.assertInvalid(InvalidLot, value, lot_parts, SHELF, value)
            self.assertInvalid(InvalidLot, value, is_lot_parts, SHELF, value, [])
            self.assertInvalid(InvalidLot, value, inner_lot, RANK_0, value)

    def test_changes_come_ahead_of_the_lot(self):
        self.assertTooMany("changes", 200, least_lots, TABLE_204)
        for value in NO_LOTS + [[(0, 1)]]:
            for function in (is_lot, is_least_lot, inner_lot, lot_parts):
                self.assertTooMany("changes", 200, function, TABLE_204, value)
            self.assertTooMany("changes", 200, is_lot_parts, TABLE_204, value, value)
        self.assertYes(is_lot, TABLE_196, [(0, 7)])

    def test_lots_come_behind_the_lot(self):
        for value in NO_LISTS + [[], [(1, 1), (-1, 1)], [(3, 1)], [(3, True), (-3, 1)]]:
            for function in (inner_lot, lot_parts):
                self.assertInvalid(InvalidLot, value, function, LOTS_301, value)
            self.assertInvalid(InvalidLot, value, is_lot_parts, LOTS_301, value, [])
            self.assertTooMany("lots", 300, is_least_lot, LOTS_301, value)
        for function in (inner_lot, lot_parts, is_least_lot):
            self.assertTooMany("lots", 300, function, LOTS_301, [(3, 1), (-3, 1)])
        for value in (None, [], [([(3, 1), (-3, 1)], 1)]):
            self.assertTooMany("lots", 300, is_lot_parts, LOTS_301, [(3, 1), (-3, 1)], value)
        self.assertYes(is_least_lot, LOTS_300, [(0, 1)])


class TestLotParts(Case):
    def check_parts(self, table, lot):
        """What is told is parts by the words of the document, of the kinds that it tells."""
        before = list(lot)
        found = lot_parts(table, lot)
        self.assertEqual(list(lot), before)
        self.assertIs(type(found), list)
        total, seen = {}, []
        for entry in found:
            self.assertIs(type(entry), tuple)
            least, often = entry
            self.assertIs(type(least), list)
            self.assertEqual(least, sorted(least))
            self.assertIs(type(often), int)
            self.assertGreaterEqual(often, 1)
            self.assertYes(is_least_lot, table, least)
            self.assertNotIn(least, seen)
            seen.append(least)
            for share in least:
                self.assertIs(type(share), tuple)
                total[share[0]] = total.get(share[0], 0) + often * share[1]
        self.assertEqual(total, dict(lot))
        self.assertYes(is_lot_parts, table, lot, found)
        again = lot_parts(table, lot)
        again[0][0].append((9, 9))
        self.assertEqual(lot_parts(table, lot), found)

    def test_lot_parts(self):
        self.check_parts(SHELF, [(1, 3), (-1, 1), (-2, 1)])
        self.check_parts(SHELF, ((1, 2), (-2, 1)))
        self.check_parts(SHELF, [(1, GREAT), (2, GREAT), (-1, GREAT), (-2, GREAT)])
        self.check_parts(SHELF, [(1, 2 * GREAT), (-2, GREAT)])
        self.check_parts(NO_OWN, [(0, GREAT)])
        self.check_parts(NO_OWN, [(0, 1)])
        self.check_parts(NO_OWN, [(1, 1), (0, 2), (-1, 1)])
        self.check_parts(LOTS_300, [(15, 7), (-11, 3), (-4, 18), (0, 2)])
        source, tables = some_tables(3, 25)
        for table in tables:
            numbers = [number for number in plain_pulls(table) if number > 0]
            for _ in range(6 if numbers else 0):
                lot = {}
                for number in source.choices(numbers, k=3):
                    other = source.choice(numbers)
                    lot[number] = lot.get(number, 0) + other
                    lot[-other] = lot.get(-other, 0) + number
                self.check_parts(table, list(lot.items()))

    def test_is_lot_parts(self):
        lot = [(1, 3), (-1, 1), (-2, 1)]
        one, two = ([(-1, 1), (1, 1)], 1), ([(1, 2), (-2, 1)], 1)
        self.assertYes(is_lot_parts, SHELF, lot, [one, two])
        self.assertYes(is_lot_parts, SHELF, lot, (two, one))
        self.assertYes(is_lot_parts, SHELF, tuple(lot), [(tuple(one[0]), 1), (tuple(two[0][::-1]), 1)])
        self.assertNo(is_lot_parts, SHELF, lot, [one])
        self.assertNo(is_lot_parts, SHELF, lot, [two])
        self.assertNo(is_lot_parts, SHELF, lot, [])
        self.assertNo(is_lot_parts, SHELF, lot, [one, two, one])
        self.assertNo(is_lot_parts, SHELF, lot, [(one[0], 2), two])
        self.assertNo(is_lot_parts, SHELF, lot, [one, two, ([(2, 1), (-2, 1)], 0)])
        self.assertNo(is_lot_parts, SHELF, lot, [(lot, 1)])
        both, four = [([(-1, 1), (1, 1)], 1), ([(-2, 1), (2, 1)], 1)], [(1, 1), (-1, 1), (2, 1), (-2, 1)]
        self.assertYes(is_lot_parts, SHELF, four, both)
        self.assertNo(is_lot_parts, SHELF, four, both + [([(-1, 2), (2, 1)], 0)])
        self.assertNo(is_lot_parts, SHELF, [(1, 2), (-1, 2)], [(one[0], 3), ([(-1, 1), (1, 1)], -1)])
        self.assertNo(is_lot_parts, SHELF, [(1, 2), (-1, 2)], [one, one])
        self.assertNo(is_lot_parts, SHELF, [(1, 2), (-1, 2)], [one, (one[0][::-1], 1)])
        self.assertNo(is_lot_parts, SHELF, [(1, 2), (-1, 2)], [([(1, 2), (-1, 2)], 1)])
        self.assertYes(is_lot_parts, SHELF, [(1, 2), (-1, 2)], [(one[0], 2)])
        self.assertYes(is_lot_parts, SHELF, [(1, GREAT), (-1, GREAT)], [(one[0], GREAT)])
        self.assertYes(is_lot_parts, NO_OWN, [(0, 3)], [([(0, 1)], 3)])
        self.assertNo(is_lot_parts, NO_OWN, [(0, 3)], [([(0, 3)], 1)])
        self.assertNo(is_lot_parts, NO_OWN, [(0, 1)], [([(False, 1)], 1)])

    def test_is_lot_parts_of_any_value(self):
        lot, least = [(1, 1), (-1, 1)], [(-1, 1), (1, 1)]
        self.assertYes(is_lot_parts, SHELF, lot, [(least, 1)])
        for value in NO_LISTS:
            self.assertNo(is_lot_parts, SHELF, lot, value)
        for value in NO_INTEGERS + [0, -1, 2]:
            self.assertNo(is_lot_parts, SHELF, lot, [(least, value)])
        for value in NO_LOTS:
            self.assertNo(is_lot_parts, SHELF, lot, [(value, 1)])
            self.assertNo(is_lot_parts, SHELF, lot, [(least, 1), (value, 1)])
        for value in NO_LISTS + [[], (), [least, 1], (least,), (least, 1, 1), (1, least), least]:
            self.assertNo(is_lot_parts, SHELF, lot, [value])
            self.assertNo(is_lot_parts, SHELF, lot, [(least, 1), value])
        self.assertNo(is_lot_parts, SHELF, lot, (least, 1))


if __name__ == "__main__":
    unittest.main()
