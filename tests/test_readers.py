"""Written forms read back, and the wrong line of any other string [92]."""

import random
import unittest

from likestreets import readers as module
from likestreets.errors import InvalidText, TooMany
from likestreets.kinds import Kind
from likestreets.plans import told_plan
from likestreets.readers import read
from likestreets.streets import Street
from likestreets.tables import Table
from likestreets.texts import is_form, written
from helpers import (
    GREAT, LOTS_301, NO_LISTS, SHELF, TABLE_204, Case, small_streets, some_exchange,
)
from test_texts import SORTS, WRITTEN

# Texts with the number of the line that is wrong, sort by sort.
WRONG = [
    ("", 1), ("\n", 1), (" \n", 1), ("row", 1), ("row\n", 1), ("row \n", 1), ("row 1", 1), ("row 1\n\n", 2), ("row 1\nrow 1\n", 2),
    ("row 1\n ", 2), ("row 1\nx", 2), ("Row 1\n", 1), (" row 1\n", 1), ("row  1\n", 1), ("row 1 \n", 1), ("row 1  2\n", 1),
    ("row 01\n", 1), ("row -0\n", 1), ("row 00\n", 1), ("row -01\n", 1), ("row +1\n", 1), ("row 1.0\n", 1), ("row a\n", 1), ("row -\n", 1),
    ("row 1,2\n", 1), ("row --1\n", 1), ("row 1-\n", 1), ("row 1_0\n", 1), ("row 1 2 3 4 5 6 7\n", 1), ("rows 1\n", 1), ("roe 1\n", 1),
    ("\nrow 1\n", 1), ("nothing\n", 1), ("own 1\n", 1), ("houses\n", 1), ("by 1\n", 1), ("1\n", 1),

    ("table", 1), ("table\n", 2), ("table \n", 1), ("table 1\n", 1), ("table\nown 1", 2), ("table\nown 1\n", 3), ("table\nown 1\ncommon 1", 3),
    ("table\nown 1\ncommon 1\n\n", 4), ("table\nown 1\ncommon 1\nown 1\n", 4), ("table\nown 5\ncommon 1\n", 2), ("table\nown -5\ncommon 1\n", 2),
    ("table\nown 1\ncommon 5\n", 3), ("table\nown 1\ncommon -5\n", 3), ("table\nown 4\ncommon -4\nx", 4), ("table\nown 1\ncommon 1 1\n", 3),
    ("table\nown 1 1\ncommon 1\n", 3), ("table\nown\ncommon\n", 2), ("table\nown 1 1 1 1 1 1 1\ncommon 1\n", 2), ("table\ncommon 1\nown 1\n", 2),
    ("table\nown 1\nown 1\n", 3), ("table\n\nown 1\n", 2), ("table\nown 1 \ncommon 1\n", 2), ("table\nown 01\ncommon 1\n", 2),

    ("price\n", 1), ("price 1 2\n", 1), ("price", 1), ("price 1", 1), ("price 1\nbend 1\n", 2), ("price 1\nbend 1 2 3\n", 2), ("price 1\nbend 1 2", 2),
    ("price 1\nbend 1 0\n", 2), ("price 1\nbend 1 -1\n", 2), ("price 1\nbend 1 1\nbend 1 1\n", 3), ("price 1\nbend 1 1\nbend 0 1\n", 3),
    ("price 1\nbend 1 1\nbend 2 1\nbend 3 1\nbend 4 1\nbend 5 1\n", 6), ("price 1\n\n", 2), ("price 1\nslope 1\n", 2), ("price 1\nbend 1 1\n\n", 3),
    ("price 1\nbend 1  1\n", 2), ("price 1\nbend 1 01\n", 2), ("bend 1 1\n", 1),

    ("kind 1\n", 1), ("kind 1 2 3\n", 1), ("kind -1 2\n", 1), ("kind 1 2\n", 2), ("kind 1 2\ncolumn 0 1\n", 2), ("kind 1 2\ncolumn 0 1 2 3\n", 2),
    ("kind 1 2\ncolumn 1 0 2\n", 2), ("kind 1 2\ncolumn 0 1 2", 2), ("kind 1 2\ncolumn 0 1 2\nbend 0 0\n", 3), ("kind 1 2\nbend 0 1\n", 2),
    ("kind 1 2\ncolumn 0 1 2\nbend 0 1\nbend 0 1\n", 4), ("kind 1 2\ncolumn 0 1 2\nkind 1 2\n", 3),
    ("kind 1 2\n" + "column 0 1 2\n" * 7, 8), ("kind 1 2\n" + "column 0 1 2\n" * 6 + "x", 8), ("kind 1 2\ncolumn 0 1 2\n\ncolumn 0 1 2\n", 3),
    ("kind 1 2\ncolumn 0 1 2\n" + "".join([f"bend {place} 1\n" for place in range(5)]), 7),
    ("kind 1 2\ncolumn 0 1 2\nbend 0 1\ncolumn 1 0 0\n", 4), ("kind 1 -0\n", 1), ("kind 01 0\n", 1), ("column 0 1 2\n", 1),

    ("street\n", 1), ("street 1 2\n", 1), ("street 1\n", 2), ("street 1\nown 1 1\n", 3), ("street 1\nown 1 1\ncommon 0 1\n", 4),
    ("street 1\nown 1 1\ncommon 0\n", 3), ("street 1\nown 9 1\ncommon 0 1\n", 2), ("street 1\ntable\nown 1 1\ncommon 0 1\n", 2),
    ("street 1\nown 1 1\ncommon 0 1\nkind 1 1\n", 5), ("street 1\nown 1 1\ncommon 0 1\nkind 1 1\ncolumn 0 1 0\n", 6),
    ("street 1\nown 1 1\ncommon 0 1\nkind 1 1\ncolumn 0 1 0\nkind 1 1\n", 6),
    ("street 1\nown 1 1\ncommon 0 1\nkind 1 1\ncolumn 0 1 0\nbend 0 1\nkind 1 1\n", 7),
    ("street 1\nown 1 1\ncommon 0 1\nkind 1 1\ncolumn 0 1 0\ncolumn 0 1 0\ncolumn 0 1 0\n", 7),
    ("street 1\nown 1 1\ncommon 0 1\nkind 1 1\ncolumn 0 1 0\ncolumn 0 1 0\nbend 1 1\ncolumn 0 1 0\n", 8),
    ("street 1\nown 1 1\ncommon 0 1\nkind 1 1\ncolumn 0 1 0\ncolumn 0 1 0\n\n", 7),
    ("street 1\nown 1 1\ncommon 0 1\nkind 1 1\ncolumn 0 1 0\ncolumn 0 1 0\nkind 1 1\ncolumn 0 1 0\n", 9),
    ("street 1\nown 1\ncommon 0\n" + "kind 1 1\ncolumn 0 1 0\n" * 6, 14), ("street 1\nown 1\ncommon 0\n" + "kind 1 1\ncolumn 0 1 0\n" * 5 + "x\n", 14),
    ("street 1\nown 1\ncommon 0\nkind 1 1\ncolumn 0 1 0", 5), ("street 1\nown 1\ncommon 0\nkind -1 1\ncolumn 0 1 0\n", 4),
    ("street 1\nown 1\ncommon 0\nkind 1 1\ncolumn 2 1 0\n", 5), ("street 1\nown 1\ncommon 0\nhouses\n", 4),

    ("layout\n", 2), ("layout 1\n", 1), ("layout\nhouses", 2), ("layout\nhouses 1\n", 2), ("layout\nhouse 1 1\n", 2), ("layout\nhouses\nhouse 1\n", 3),
    ("layout\nhouses\nhouse 0 1\n", 3), ("layout\nhouses\nhouse -1 1\n", 3), ("layout\nhouses\nhouse 1 1 1\nhouse 1 1\n", 4),
    ("layout\nhouses\nhouse 1 1 1\nhouses\nhouse 1 1\n", 5), ("layout\nhouses\nhouse 1 1\nhouses\nhouse 1 1 1\n", 5),
    ("layout\nhouses\nhouse 1 1\nhouse 1 1\n", 4), ("layout\nhouses\nhouse 1 1\nhouse 2 1\n", 4), ("layout\nhouses\nhouse 1 1\nhouse 1 0\n", 4),
    ("layout\nhouses\nhouse 1 0 1\nhouse 1 0 0\n", 4), ("layout\nhouses\nhouse 1 1\n\n", 4), ("layout\nhouses\nhouse 1 1 2 3 4 5 6 7\n", 3),
    ("layout\n" + "houses\n" * 6, 7), ("layout\nhouses\n" + "".join([f"house 1 {number}\n" for number in range(101)]), 103),
    ("layout\nhouses\nhouses\nlayout\n", 4),

    ("exchange 1\n", 1), ("exchange", 1), ("exchange\n\n", 2), ("exchange\nby 1\n", 2), ("exchange\nfrom 0 1 1\n", 3), ("exchange\nfrom 0 1 1", 2),
    ("exchange\nfrom 5 1 1\nby 1\n", 2), ("exchange\nfrom -1 1 1\nby 1\n", 2), ("exchange\nfrom 0 0 1\nby 1\n", 2), ("exchange\nfrom 0 1\nby 1\n", 2),
    ("exchange\nfrom 0 1 1\nby 1 1\n", 3), ("exchange\nfrom 0 1 1 1\nby 1\n", 3), ("exchange\nfrom 0 1 1\nfrom 0 1 1\n", 3), ("exchange\nfrom 0 1 1\nby 1", 3),
    ("exchange\nfrom 0 1 1\nby 1\nfrom 0 1 1\nby 1\n", 5), ("exchange\nfrom 0 1 1\nby 1\nfrom 0 2 1\nby 1\n", 5), ("exchange\nfrom 0 1 1\nby 1\nfrom 0 2 1\nby 0\n", 5),
    ("exchange\nfrom 0 1 1\nby 1\nfrom 0 1 0\nby 1\n", 4), ("exchange\nfrom 1 1 1\nby 1\nfrom 0 1 2\nby 1\n", 4), ("exchange\nfrom 0 1 1\nby 1\nfrom 0 1 1 1\nby 1 1\n", 4),
    ("exchange\nfrom 0 1 1\nby 1\nfrom 0 1 1\n", 5), ("exchange\nfrom 0 1 1\nby 1\nby 1\n", 4), ("exchange\nfrom 0 1 1 2 3 4 5 6 7\n", 2),
    ("exchange\n" + "".join([f"from 0 1 {number}\nby 1\n" for number in range(101)]), 202), ("exchange\nfrom 0 1 1\nby -0\n", 3),

    ("lot 1\n", 1), ("lot", 1), ("lot\npull 1\n", 2), ("lot\npull 1 1 1\n", 2), ("lot\npull 1 0\n", 2), ("lot\npull 1 -1\n", 2), ("lot\npull 1 1\npull 1 1\n", 3),
    ("lot\npull 1 1\npull 0 1\n", 3), ("lot\npull 1 1", 2), ("lot\n\n", 2), ("lot\npush 1 1\n", 2), ("lot\n" + "".join([f"pull {number} 1\n" for number in range(101)]), 102),

    ("changes 1\n", 1), ("changes", 1), ("changes\nby\n", 2), ("changes\nby 1\nby 1 1\n", 3), ("changes\nby 1 1\nby 1\n", 3), ("changes\nby 1", 2), ("changes\n\n", 2),
    ("changes\nby 1 2 3 4 5 6 7\n", 2), ("changes\nfrom 1\n", 2), ("changes\n" + "by 1\n" * 101, 102), ("changes\nby 1\n by 1\n", 3),
]


class TestRead(Case):
    def test_interface(self):
        self.assertDefinedIn(module, "read")
        self.assertParameters(read, "text")
        self.assertEqual(read(text="row 1 -2\n"), ("row", (1, -2)))
        self.assertGives(("price", (3, [(0, 2)])), read, "price 3\nbend 0 2\n")
        self.assertGives(("layout", [[((1, 0), 2)], []]), read, "layout\nhouses\nhouse 2 1 0\nhouses\n")
        self.assertGives(("exchange", [(0, (1, 0), (-1, 1), 1)]), read, "exchange\nfrom 0 1 1 0\nby -1 1\n")

    def test_written_forms_are_read_back(self):
        for sort, value, text in WRITTEN:
            found = read(text)
            self.assertIs(type(found), tuple)
            self.assertEqual(found[0], sort)
            self.assertYes(is_form, sort, found[1])
            self.assertEqual(written(sort, found[1]), text)
            self.assertEqual(read(text), found)
        told = {sort: read(text)[1] for sort, _, text in WRITTEN}
        self.assertSame(told["row"], (GREAT, -GREAT, 0, 10, -10, 7))
        self.assertSame(told["price"], (0, [(-9, 1), (0, 2), (1, 3), (2, GREAT)]))
        self.assertSame(told["layout"], [[], [], [], [], []])
        self.assertSame(told["exchange"], [(0, (-3,), (8,), 2), (0, (3,), (-7,), 1), (0, (3,), (7,), 9), (4, (2,), (0,), 3)])
        self.assertSame(told["changes"], [])
        self.assertSame(read("changes\nby 1 -1\nby 0 0\n")[1], [(1, -1), (0, 0)])
        self.assertSame(read("lot\npull -2 1\npull 1 2\n")[1], [(-2, 1), (1, 2)])
        self.assertEqual(read("table\nown -4\ncommon 4\n"), ("table", Table((-4,), (4,))))
        self.assertEqual(read("kind 0 0\ncolumn 5 5 0\n"), ("kind", Kind(0, 0, [(5, 5)], [(0, [])])))

    def test_what_the_package_makes_is_read_back(self):
        source = random.Random(141)
        for street, plans in small_streets(142, 40):
            plan = source.choice(plans)
            self.assertEqual(read(written("street", street)), ("street", street))
            self.assertEqual(read(written("table", street.table)), ("table", street.table))
            self.assertEqual(read(written("layout", plan)), ("layout", told_plan(street, plan)))
            exchange = some_exchange(source, street, plan, plans)
            self.assertEqual(read(written("exchange", exchange)), ("exchange", sorted(exchange)))
            for kind in street.kinds():
                self.assertEqual(read(written("kind", kind)), ("kind", kind))
                for price in kind.prices():
                    self.assertGives(("price", price), read, written("price", price))

    def test_as_many_lines_as_can_be(self):
        for value in ([[((number,), 1) for number in range(100)]] * 5, [[]] * 4 + [[((1,) * 6, GREAT)]]):
            self.assertGives(("layout", value), read, written("layout", value))
        for sort, value in (("exchange", [(4, (number,), (1,), 1) for number in range(100)]), ("lot", [(number, 1) for number in range(100)]),
                            ("changes", [(1, 0, 0, 0, 0, 0)] * 100)):
            self.assertGives((sort, value), read, written(sort, value))

    def test_wrong_lines(self):
        for text, line in WRONG:
            with self.subTest(text=text):
                self.assertFails(InvalidText, {"line": line}, read, text)
        self.assertEqual(sorted({text.split("\n")[0].split(" ")[0] for text, _ in WRONG} & set(SORTS)), sorted(SORTS))

    def test_lines_that_lack_or_are_too_many(self):
        for sort, _, text in WRITTEN:
            lines = text.split("\n")[:-1]
            # Without its last line feed the last line is wrong; behind the end each further line.
            self.assertFails(InvalidText, {"line": len(lines)}, read, text[:-1])
            for more in ("\n", "x", "x\n", " \n", "row 1\n", "table\n", "street 1\n"):
                self.assertFails(InvalidText, {"line": len(lines) + 1}, read, text + more)
            for at in range(len(lines)):
                begun = "".join([line + "\n" for line in lines[:at]])
                try:
                    self.assertIn(read(begun)[0], SORTS)
                except InvalidText as error:
                    self.assertEqual(error.line, at + 1)
                for wrong in ("\n", "nothing\n", lines[at] + " \n", " " + lines[at] + "\n", lines[at] + " x\n", lines[at] + " 1 1 1 1 1 1 1\n"):
                    self.assertFails(InvalidText, {"line": at + 1}, read, begun + wrong + "".join(lines[at + 1:]))

    def test_no_strings(self):
        for value in [value for value in NO_LISTS if not isinstance(value, str)] + [[], ["row 1\n"], ("row", 1), b"row 1\n", 0]:
            self.assertFails(InvalidText, {"line": 0}, read, value)

    def test_tables_with_too_many_lots(self):
        for table, what, limit in ((TABLE_204, "changes", 200), (LOTS_301, "lots", 300)):
            text = written("street", Street(SHELF, [Kind(1, 1, [(0, 1)] * 3, [(0, [])] * 3)], 1))
            rows = written("table", table).replace("table\n", "")
            kind = "kind 1 1\n" + "column 0 1 0\n" * table.columns
            self.assertEqual(read("table\n" + rows)[1], table)
            self.assertTooMany(what, limit, read, "street 1\n" + rows + kind)
            self.assertFails(InvalidText, {"line": 4}, read, "street 1\n" + rows)
            self.assertFails(InvalidText, {"line": 5 + table.columns}, read, "street 1\n" + rows + kind + "x\n")
            self.assertEqual(read(text)[0], "street")
            self.assertRaises(TooMany, Street, table, [Kind(1, 1, [(0, 1)] * table.columns, [(0, [])] * table.columns)], 1)


if __name__ == "__main__":
    unittest.main()
