"""Streets [6], [44]."""

import unittest

from likestreets import streets as module
from likestreets.errors import InvalidKind, InvalidKinds, InvalidStock, InvalidTable
from likestreets.kinds import Kind
from likestreets.reach import reach
from likestreets.streets import Street
from likestreets.tables import Table
from helpers import (
    GREAT, LOTS_300, LOTS_301, NO_INTEGERS, NO_LISTS, NO_OWN, NO_TABLES, ONE_FREE, RANK_0, SHELF, TABLE_196, TABLE_204,
    TWO_WAYS, Case, Thing,
)

SHOP = Kind(2, 1, [(0, 1), (0, 1), (0, 1)], [(0, []), (3, []), (1, [])])
TWO = Kind(1, 0, [(0, 1), (0, 1)], [(0, []), (3, [])])
KINDS = [SHOP, SHOP.with_many(1)]
NO_KINDS = [value for value in NO_LISTS if not isinstance(value, Kind)] + [
    [], (), TWO, Kind, (2, 1, [(0, 1)] * 3, [(0, [])] * 3), [SHOP], Kind(0, 0, [(0, 0)] * 4, [(0, [])] * 4),
]


def still(columns):
    return Kind(1, 0, [(0, 0)] * columns, [(0, [])] * columns)


class TestStreets(Case):
    def test_interface(self):
        self.assertDefinedIn(module, "Street")
        self.assertParameters(Street, "table", "kinds", "stock")
        for name in ("table", "stock", "houses", "reach", "kinds", "with_stock", "with_kind", "__eq__"):
            self.assertIn(name, vars(Street))
        street = Street(stock=3, kinds=KINDS, table=SHELF)
        self.assertEqual(street, Street(SHELF, KINDS, 3))
        self.assertEqual(street.with_stock(stock=4).stock, 4)
        self.assertEqual(street.with_kind(kind=SHOP, position=1).houses, 4)

    def test_told(self):
        street = Street(SHELF, tuple(KINDS), -3)
        self.assertSame([street.stock, street.houses, street.reach], [-3, 3, 3])
        self.assertEqual(street.table, SHELF)
        self.assertIs(type(street.kinds()), list)
        self.assertEqual(street.kinds(), KINDS)
        self.assertEqual(Street(SHELF, [SHOP.with_many(10 ** 20)] * 5, GREAT).houses, 5 * 10 ** 20)
        self.assertEqual(Street(SHELF, [SHOP.with_many(0)], 0).houses, 0)

    def test_reach(self):
        for table in (SHELF, TWO_WAYS, NO_OWN, RANK_0, ONE_FREE, TABLE_196, LOTS_300, Table((1, 1), (1, 1))):
            for many in (0, 1, 10 ** 20):
                for stock in (0, 7):
                    street = Street(table, [still(table.columns).with_many(many)], stock)
                    self.assertSame(street.reach, reach(table))

    def test_one_to_five_kinds(self):
        for many in (1, 5):
            self.assertEqual(len(Street(SHELF, [SHOP] * many, 0).kinds()), many)
        for value in NO_LISTS + [[], (), [SHOP] * 6, (SHOP,) * 7, SHOP, {0: SHOP}]:
            self.assertFails(InvalidKinds, {"position": None}, Street, SHELF, value, 0)
            self.assertFails(InvalidKinds, {"position": None}, Street, SHELF, value, None)

    def test_kinds_of_other_columns(self):
        for value in NO_KINDS:
            self.assertFails(InvalidKinds, {"position": 0}, Street, SHELF, [value], 0)
            self.assertFails(InvalidKinds, {"position": 2}, Street, SHELF, [SHOP, SHOP, value, None, SHOP], True)
            self.assertFails(InvalidKinds, {"position": 4}, Street, SHELF, (SHOP, SHOP, SHOP, SHOP, value), 0)
        self.assertFails(InvalidKinds, {"position": 0}, Street, Table((1, 1), (0, 1)), [SHOP, TWO], 0)

    def test_copies(self):
        kinds = [SHOP]
        street = Street(SHELF, kinds, 3)
        kinds.append(SHOP)
        self.assertEqual(street.kinds(), [SHOP])
        street.kinds().append(SHOP)
        street.kinds()[0] = None
        self.assertEqual(street.kinds(), [SHOP])
        self.assertEqual(street, Street(SHELF, [SHOP], 3))

    def test_with_stock(self):
        street = Street(SHELF, KINDS, 3)
        for stock in (3, 0, -1, GREAT, -GREAT):
            self.assertEqual(street.with_stock(stock), Street(SHELF, KINDS, stock))
            self.assertIs(type(street.with_stock(stock)), Street)
        self.assertEqual(street.stock, 3)
        for value in NO_INTEGERS:
            self.assertInvalid(InvalidStock, value, street.with_stock, value)

    def test_with_kind(self):
        street = Street(SHELF, KINDS, 3)
        other = Kind(9, 2, [(0, 5)] * 3, [(1, [])] * 3)
        self.assertEqual(street.with_kind(0, other), Street(SHELF, [other, KINDS[1]], 3))
        self.assertEqual(street.with_kind(1, other), Street(SHELF, [KINDS[0], other], 3))
        self.assertEqual(street.with_kind(1, other).houses, 11)
        self.assertEqual(street.with_kind(1, SHOP.with_many(1)), street)
        self.assertEqual(street.kinds(), KINDS)
        for value in NO_INTEGERS + [-1, 2, -2, GREAT]:
            self.assertInvalid(InvalidKind, value, street.with_kind, value, SHOP)
            self.assertInvalid(InvalidKind, value, street.with_kind, value, None)
        for value in NO_KINDS:
            self.assertFails(InvalidKinds, {"position": 0}, street.with_kind, 0, value)
            self.assertFails(InvalidKinds, {"position": 1}, street.with_kind, 1, value)

    def test_equal(self):
        street = Street(SHELF, KINDS, 3)
        self.assertTrue(street == Street(Table([1, 1, 1], (0, 1, 2)), tuple(KINDS), 3))
        for other in (Street(SHELF, KINDS, 4), Street(SHELF, KINDS[::-1], 3), Street(SHELF, KINDS[:1], 3),
                      Street(Table((1, 1, 1), (0, 1, 3)), KINDS, 3), Street(SHELF, [SHOP, SHOP], 3),
                      Street(SHELF, KINDS + [SHOP], 3)):
            self.assertIs(street == other, False)
            self.assertIs(other == street, False)
            self.assertIs(street != other, True)
        for value in NO_LISTS + [[], (SHELF, KINDS, 3), Street, SHELF, SHOP, Thing()]:
            self.assertIs(street == value, False)
            self.assertIs(street != value, True)

    def test_errors(self):
        for value in NO_TABLES:
            self.assertInvalid(InvalidTable, value, Street, value, KINDS, 3)
            self.assertInvalid(InvalidTable, value, Street, value, None, None)
        for value in NO_INTEGERS:
            self.assertInvalid(InvalidStock, value, Street, SHELF, KINDS, value)
            self.assertInvalid(InvalidStock, value, Street, TABLE_204, [still(6)], value)
            self.assertInvalid(InvalidStock, value, Street, LOTS_301, [still(4)], value)
        self.assertTooMany("changes", 200, Street, TABLE_204, [still(6)], 0)
        self.assertTooMany("lots", 300, Street, LOTS_301, [still(4)], 0)
        self.assertFails(InvalidKinds, {"position": 1}, Street, TABLE_204, [still(6), SHOP], 0)


if __name__ == "__main__":
    unittest.main()
