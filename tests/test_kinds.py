"""Kinds [6], [42]."""

import unittest

from likestreets import kinds as module
from likestreets.errors import InvalidBounds, InvalidMany, InvalidPrices, InvalidRest
from likestreets.kinds import Kind
from helpers import GREAT, NO_INTEGERS, NO_LISTS, NO_PRICES, SHELF, Case, Thing

BOUNDS = [(0, 1), (0, 1), (0, 1)]
PRICES = [(0, []), (3, []), (1, [])]
NO_MANY = NO_INTEGERS + [-1, -GREAT]
NO_BOUNDS = NO_LISTS + [
    [], (), [(0, 1)] * 7, [[0, 1]], [(0, 1), [0, 1]], [(1, 0)], [(0, 1), (0, -1)], [(0, 1, 2)], [(0,)], [()], [0, 1], (0, 1),
    [(True, 1)], [(0, True)], [(False, False)], [(None, 1)], [(0, None)], [("0", 1)], [(0, "1")], [(0, 1), None], ["01"],
    [((0,), 1)], [(GREAT, -GREAT)], [[(0, 1)]], [{0: 1}],
]


class TestKinds(Case):
    def test_interface(self):
        self.assertDefinedIn(module, "Kind")
        self.assertParameters(Kind, "many", "rest", "bounds", "prices")
        for name in ("many", "rest", "columns", "bounds", "prices", "with_many", "__eq__", "__repr__"):
            self.assertIn(name, vars(Kind))
        kind = Kind(prices=PRICES, bounds=BOUNDS, rest=1, many=2)
        self.assertEqual(kind, Kind(2, 1, BOUNDS, PRICES))
        self.assertEqual(kind.with_many(many=5).many, 5)

    def test_told(self):
        kind = Kind(2, -7, ((0, 1), (-3, -3)), ((0, ()), (3, ((0, 2), (5, 1)))))
        self.assertSame([kind.many, kind.rest, kind.columns], [2, -7, 2])
        self.assertGives([(0, 1), (-3, -3)], kind.bounds)
        self.assertGives([(0, []), (3, [(0, 2), (5, 1)])], kind.prices)
        self.assertSame(kind.prices()[1], (3, [(0, 2), (5, 1)]))
        self.assertEqual(Kind(0, 0, [(0, 0)], [(0, [])]).columns, 1)
        self.assertEqual(Kind(10 ** 20, 0, [(0, 0)] * 6, [(0, [])] * 6).many, 10 ** 20)
        self.assertEqual(Kind(GREAT, -GREAT, [(-GREAT, GREAT)], [(GREAT, [])]).bounds(), [(-GREAT, GREAT)])

    def test_copies(self):
        bends = [(0, 2)]
        bounds, prices = [(0, 1)], [(3, bends)]
        kind = Kind(2, 1, bounds, prices)
        bounds.append((0, 3))
        bends.append((1, 1))
        prices[0] = (4, [])
        self.assertSame(kind.bounds(), [(0, 1)])
        self.assertSame(kind.prices(), [(3, [(0, 2)])])
        self.assertEqual(kind.columns, 1)
        kind.prices()[0][1].append(1)
        kind.prices().append(1)
        kind.bounds().append(1)
        self.assertEqual(kind, Kind(2, 1, [(0, 1)], [(3, [(0, 2)])]))
        self.assertEqual(repr(kind), "Kind(2, 1, [(0, 1)], [(3, [(0, 2)])])")
        more = kind.with_many(3)
        more.prices()[0][1].append(1)
        self.assertEqual(kind.prices(), [(3, [(0, 2)])])

    def test_with_many(self):
        kind = Kind(2, 1, BOUNDS, PRICES)
        for many in (0, 1, 2, 10 ** 20):
            self.assertEqual(kind.with_many(many), Kind(many, 1, BOUNDS, PRICES))
            self.assertIs(type(kind.with_many(many)), Kind)
        self.assertEqual(kind.many, 2)
        for value in NO_MANY:
            self.assertInvalid(InvalidMany, value, kind.with_many, value)

    def test_equal(self):
        kind = Kind(2, 1, BOUNDS, PRICES)
        self.assertTrue(kind == Kind(2, 1, tuple(BOUNDS), [(0, ()), (3, []), (1, ())]))
        for other in (Kind(3, 1, BOUNDS, PRICES), Kind(2, 0, BOUNDS, PRICES), Kind(2, 1, [(0, 1), (0, 1), (0, 2)], PRICES),
                      Kind(2, 1, [(-1, 1), (0, 1), (0, 1)], PRICES), Kind(2, 1, BOUNDS, PRICES[::-1]),
                      Kind(2, 1, BOUNDS, [(0, []), (3, []), (1, [(0, 1)])]), Kind(2, 1, BOUNDS[:2], PRICES[:2])):
            self.assertFalse(kind == other)
            self.assertFalse(other == kind)
            self.assertTrue(kind != other)
        for value in NO_LISTS + [[], (2, 1, BOUNDS, PRICES), Kind, SHELF, repr(kind)]:
            self.assertIs(kind == value, False)
            self.assertIs(kind != value, True)

    def test_repr(self):
        self.assertEqual(repr(Kind(2, 1, [(0, 1), (0, 1)], [(0, []), (3, [(0, 2)])])),
                         "Kind(2, 1, [(0, 1), (0, 1)], [(0, []), (3, [(0, 2)])])")
        self.assertEqual(repr(Kind(0, -1, ((-2, 3),), ((-1, ((0, 2), (4, 10 ** 20))),))),
                         "Kind(0, -1, [(-2, 3)], [(-1, [(0, 2), (4, 100000000000000000000)])])")

    def test_errors(self):
        for value in NO_MANY:
            self.assertInvalid(InvalidMany, value, Kind, value, 1, BOUNDS, PRICES)
            self.assertInvalid(InvalidMany, value, Kind, value, None, None, None)
        for value in NO_INTEGERS:
            self.assertInvalid(InvalidRest, value, Kind, 2, value, BOUNDS, PRICES)
            self.assertInvalid(InvalidRest, value, Kind, 2, value, None, None)
        for value in NO_BOUNDS:
            self.assertInvalid(InvalidBounds, value, Kind, 2, 1, value, PRICES)
            self.assertInvalid(InvalidBounds, value, Kind, 2, 1, value, None)
        for value in NO_LISTS + [[], (), PRICES[:2], PRICES + [(0, [])], [PRICES], (0, []), [[0, []]] * 3, {0: 1}, Thing()]:
            self.assertInvalid(InvalidPrices, value, Kind, 2, 1, BOUNDS, value)
        for value in NO_PRICES:
            self.assertInvalid(InvalidPrices, [(0, []), value, (1, [])], Kind, 2, 1, BOUNDS, [(0, []), value, (1, [])])
            self.assertInvalid(InvalidPrices, ((0, []), (1, []), value), Kind, 2, 1, BOUNDS, ((0, []), (1, []), value))


if __name__ == "__main__":
    unittest.main()
