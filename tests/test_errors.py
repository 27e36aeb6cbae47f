"""The errors: names, base classes, constructors, attributes."""

import unittest

from likestreets import errors
from helpers import Case, Thing

WITH_VALUE = """
    InvalidChange InvalidExchange InvalidHouse InvalidKind InvalidMany InvalidNumber InvalidPlace InvalidPlan
    InvalidRow InvalidStock InvalidStreet InvalidTable InvalidBasis InvalidBounds InvalidChanges InvalidClaim
    InvalidCommand InvalidForm InvalidLayout InvalidLot InvalidOrder InvalidPaper InvalidPrice InvalidPrices
    InvalidRest InvalidRows InvalidSort InvalidSwap
""".split()
BASES = {"StreetError": ValueError, "MissingError": LookupError, "StateError": RuntimeError,
         "LimitError": ArithmeticError}
WORDS = {}
for name in WITH_VALUE:
    WORDS[name] = ("StreetError", ["value"])
for name in ("InvalidKinds", "InvalidLines"):
    WORDS[name] = ("StreetError", ["position"])
WORDS["InvalidText"] = ("StreetError", ["line"])
for name in ("UnknownLabel", "UnknownName"):
    WORDS[name] = ("MissingError", ["value"])
for name in ("UnlikeLengths", "NotBest", "NotGrown", "NothingToRedo", "NothingToUndo", "TooFew"):
    WORDS[name] = ("StateError", [])
WORDS["CommandFailed"] = ("StateError", ["position"])
WORDS["LabelTaken"] = ("StateError", ["label"])
for name in ("NameTaken", "OtherStreet", "WrongThing"):
    WORDS[name] = ("StateError", ["name"])
WORDS["TooMany"] = ("LimitError", ["what", "limit"])


class TestErrors(Case):
    def test_base_errors(self):
        for name, base in BASES.items():
            self.assertEqual(getattr(errors, name).__bases__, (base,), name)
            self.assertEqual(getattr(errors, name).__module__, "likestreets.errors")

    def test_each_error_is_a_direct_subclass(self):
        self.assertEqual(len(WORDS), 45)
        for name, (base, attributes) in WORDS.items():
            self.assertEqual(getattr(errors, name).__bases__, (getattr(errors, base),), name)
            self.assertEqual(getattr(errors, name).__module__, "likestreets.errors")

    def test_attributes_by_position_and_by_name(self):
        values = [None, True, 0, 10 ** 40, "word", b"", [1, [2]], (1, "a"), {"a": 1}, {1}, Thing(), Thing, len]
        for name, (base, attributes) in WORDS.items():
            error = getattr(errors, name)
            for value in values:
                given = [value, (value,)][:len(attributes)]
                for made in (error(*given), error(**dict(zip(attributes, given)))):
                    for attribute, wanted in zip(attributes, given):
                        self.assertIs(getattr(made, attribute), wanted)

    def test_raised_and_caught_by_their_bases(self):
        for name, (base, attributes) in WORDS.items():
            for caught in (getattr(errors, name), getattr(errors, base), BASES[base]):
                with self.assertRaises(caught):
                    raise getattr(errors, name)(*[[]] * len(attributes))


if __name__ == "__main__":
    unittest.main()
