"""Written forms of values of nine sorts [91]."""

import unittest

from likestreets import texts as module
from likestreets.errors import InvalidForm, InvalidSort
from likestreets.kinds import Kind
from likestreets.streets import Street
from likestreets.tables import Table
from likestreets.texts import is_form, sorts, written
from helpers import (
    APART, GREAT, NO_INTEGERS, NO_LISTS, NO_PRICES, NO_ROWS, RANK_0, SHELF, SHOP, SHOPS, SWAP, TABLE_204, Case, Thing,
)

SORTS = ["row", "table", "price", "kind", "street", "layout", "exchange", "lot", "changes"]
KIND = Kind(2, -1, [(0, 1), (-3, 4)], [(0, []), (-5, [(0, 2), (3, 1)])])
STREET = Street(Table((1, -1), (0, 4)), [KIND, Kind(0, 0, [(0, 0)] * 2, [(1, [])] * 2)], -7)
WRITTEN = [
    ("row", [1, -2], "row 1 -2\n"),
    ("row", (0,), "row 0\n"),
    ("row", (GREAT, -GREAT, 0, 10, -10, 7), f"row {GREAT} -{GREAT} 0 10 -10 7\n"),
    ("table", Table((1, 1), (0, 1)), "table\nown 1 1\ncommon 0 1\n"),
    ("table", Table((-4,), (4,)), "table\nown -4\ncommon 4\n"),
    ("price", (3, [(0, 2)]), "price 3\nbend 0 2\n"),
    ("price", (-3, ()), "price -3\n"),
    ("price", (0, ((-9, 1), (0, 2), (1, 3), (2, GREAT))), f"price 0\nbend -9 1\nbend 0 2\nbend 1 3\nbend 2 {GREAT}\n"),
    ("kind", KIND, "kind 2 -1\ncolumn 0 1 0\ncolumn -3 4 -5\nbend 0 2\nbend 3 1\n"),
    ("kind", Kind(0, 0, [(5, 5)], [(0, [])]), "kind 0 0\ncolumn 5 5 0\n"),
    ("street", STREET, "street -7\nown 1 -1\ncommon 0 4\nkind 2 -1\ncolumn 0 1 0\ncolumn -3 4 -5\nbend 0 2\nbend 3 1\n"
                       "kind 0 0\ncolumn 0 0 1\ncolumn 0 0 1\n"),
    ("layout", [[((1, 0), 2)], []], "layout\nhouses\nhouse 2 1 0\nhouses\n"),
    ("layout", [[]], "layout\nhouses\n"),
    ("layout", ((([0, 1], 2), ((-1, 5), 1)), [((0, 1), GREAT)]),
     f"layout\nhouses\nhouse 1 -1 5\nhouse 2 0 1\nhouses\nhouse {GREAT} 0 1\n"),
    ("layout", [[], [], [], [], []], "layout\nhouses\nhouses\nhouses\nhouses\nhouses\n"),
    ("exchange", [(0, (1, 0), (-1, 1), 1)], "exchange\nfrom 0 1 1 0\nby -1 1\n"),
    ("exchange", [], "exchange\n"),
    ("exchange", ((4, [2], (0,), 3), (0, (3,), [7], 9), (0, (3,), (-7,), 1), (0, (-3,), (8,), 2)),
     "exchange\nfrom 0 2 -3\nby 8\nfrom 0 1 3\nby -7\nfrom 0 9 3\nby 7\nfrom 4 3 2\nby 0\n"),
    ("lot", [(1, 2), (-2, 1)], "lot\npull -2 1\npull 1 2\n"),
    ("lot", (), "lot\n"),
    ("lot", ((0, 1),), "lot\npull 0 1\n"),
    ("changes", [(1, -1), [0, 0], (1, -1)], "changes\nby 1 -1\nby 0 0\nby 1 -1\n"),
    ("changes", (), "changes\n"),
]
# Of each sort values that are none of it.
NO_FORMS = {
    "row": NO_ROWS,
    "table": NO_LISTS[:-1] + [((1, 1), (0, 1)), Table, SHOP],
    "price": NO_PRICES,
    "kind": NO_LISTS + [Kind, SHOPS, (2, 1, [(0, 1)], [(0, [])])],
    "street": NO_LISTS + [Street, SHOP, (SHELF, [SHOP], 3)],
    "layout": NO_LISTS + [
        [], (), [None], [[]] * 6, [[None]], [[()]], [[((1, 0),)]], [[((1, 0), 0)]], [[((1, 0), -1)]], [[((1, 0), True)]],
        [[[(1, 0), 1]]], [[((1, 0), 1, 1)]], [[((1, 0), 1), ([1, 0], 2)]], [[((1, 0), 1), ((1,), 1)]],
        [[((1, 0), 1)], [((1, 0, 0), 1)]], [[((1, True), 1)]], [[((), 1)]], [[((0,) * 7, 1)]], [((1, 0), 1)],
        [[((number,), 1) for number in range(101)]], {}, [{}],
    ],
    "exchange": NO_LISTS + [
        [None], [()], [[0, (1,), (1,), 1]], [(0, (1,), (1,))], [(0, (1,), (1,), 1, 1)], [(5, (1,), (1,), 1)], [(-1, (1,), (1,), 1)],
        [(False, (1,), (1,), 1)], [(0, (1,), (1,), 0)], [(0, (1,), (1,), True)], [(0, (1,), (1, 0), 1)], [(0, (True,), (1,), 1)],
        [(0, (1,), (False,), 1)], [(0, (1,), (1,), 1), (1, (1, 0), (1, 0), 1)], [(0, (1,), (1,), 1), (0, [1], [1], 2)],
        [(0, (), (), 1)], [(0, 1, 1, 1)], [(0, (number,), (1,), 1) for number in range(101)], (0, (1,), (1,), 1),
    ],
    "lot": NO_LISTS + [
        [None], [()], [[1, 1]], [(1,)], [(1, 1, 1)], [(1, 0)], [(1, -1)], [(1, True)], [(True, 1)], [(1, 1), (1, 2)], [("1", 1)],
        [(number, 1) for number in range(101)], (1, 1), [((1,), 1)],
    ],
    "changes": [value for value in NO_LISTS] + [
        [None], [()], [[]], [(True,)], [(1, 0), (1,)], [(0,) * 7], [1], [(1,)] * 101, (1, 0), [[[1]]], [{}],
    ],
}
NO_SORTS = NO_LISTS + ["Row", "row ", "rows", "", " ", [], ["row"], ("row",), "lots", "plan", "change", Thing()]


class TestTexts(Case):
    def test_interface(self):
        self.assertDefinedIn(module, "sorts", "is_form", "written")
        self.assertParameters(sorts)
        self.assertParameters(is_form, "sort", "value")
        self.assertParameters(written, "sort", "value")
        self.assertGives(SORTS, sorts)
        self.assertEqual(written(value=[1, -2], sort="row"), "row 1 -2\n")
        self.assertIs(is_form(value=(1, [(0, 0)]), sort="price"), False)

    def test_written(self):
        for sort, value, text in WRITTEN:
            self.assertYes(is_form, sort, value)
            self.assertGives(text, written, sort, value)

    def test_each_sort_is_written(self):
        self.assertEqual(sorted({sort for sort, _, _ in WRITTEN}), sorted(SORTS))

    def test_what_stands_in_layouts_exchanges_and_lots_is_sorted(self):
        for sort, value in (("layout", APART), ("exchange", SWAP), ("lot", [(3, 1), (-1, 3), (0, 5)])):
            other = [share[::-1] for share in value] if sort == "layout" else value[::-1]
            self.assertNotEqual(value, other)
            self.assertEqual(written(sort, value), written(sort, other))
        self.assertNotEqual(written("changes", [(1,), (0,)]), written("changes", [(0,), (1,)]))

    def test_many_lines(self):
        self.assertYes(is_form, "layout", [[((number,), 1) for number in range(100)]] * 5)
        self.assertYes(is_form, "exchange", [(4, (number,), (1,), 1) for number in range(100)])
        self.assertYes(is_form, "lot", [(number, 1) for number in range(100)])
        self.assertYes(is_form, "changes", [(1,)] * 100)
        self.assertEqual(written("lot", [(number, 2) for number in range(99, -1, -1)]).split("\n")[:3], ["lot", "pull 0 2", "pull 1 2"])

    def test_no_forms(self):
        for sort in SORTS:
            for value in NO_FORMS[sort]:
                self.assertNo(is_form, sort, value)
                self.assertInvalid(InvalidForm, value, written, sort, value)
            for other, value, _ in WRITTEN:
                if other != sort and sort in ("row", "table", "price", "kind", "street", "layout"):
                    self.assertNo(is_form, sort, value)

    def test_tables_with_too_many_least_changes(self):
        self.assertGives("table\nown 2 3 3 3 4 4\ncommon 0 0 0 0 0 1\n", written, "table", TABLE_204)
        self.assertGives("street 0\nown 3\ncommon 1\nkind 0 0\ncolumn 0 0 0\n",
                         written, "street", Street(RANK_0, [Kind(0, 0, [(0, 0)], [(0, [])])], 0))

    def test_errors(self):
        for value in NO_SORTS + NO_INTEGERS:
            self.assertInvalid(InvalidSort, value, is_form, value, None)
            self.assertInvalid(InvalidSort, value, written, value, None)
            self.assertInvalid(InvalidSort, value, written, value, (1,))


if __name__ == "__main__":
    unittest.main()
