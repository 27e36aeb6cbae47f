"""Claims, their contraries, and papers of them [93], [94]."""

import unittest

from likestreets import claims as module
from likestreets.bank import bank_plan, is_short_paper, some_plan
from likestreets.better import is_best
from likestreets.claims import contrary, is_claim, is_paper_of, is_true, paper_of, words
from likestreets.errors import InvalidClaim, TooMany
from likestreets.kinds import Kind
from likestreets.least import fitting, inner
from likestreets.lots import least_lots
from likestreets.plans import is_plan, layout_price
from likestreets.reach import greatest_swap, reach
from likestreets.saved import is_bettering
from likestreets.streets import Street
from likestreets.tables import Table
from helpers import (
    APART, GREAT, LOTS_301, NO_CHANGES, NO_INTEGERS, NO_LISTS, NO_OWN, NO_PLANS, NO_STREETS, NO_TABLES, RANK_0, SHELF, SHOPS,
    SWAP, TABLE_204, TWO_WAYS, Case, plain_cost, plain_within, small_streets, some_owns,
)
from test_bank import FIVE_COLUMNS, LOTS_201, PAPER, SHORT, STREET, WIDE_SUMS, noughts, still
from test_led import SUMS_2016

BEST = [[((0, 1, 0), 3)]]
NOBODY = Street(SHELF, [Kind(0, 9, [(0, 1)] * 3, [(0, [])] * 3), Kind(2, 9, [(0, 1)] * 3, [(0, [])] * 3)], 4)
WORDS = [("least", "parted"), ("enough", "toofew"), ("best", "better"), ("plan", "short"), ("atmost", "above")]
TRUE = [
    ("least", SHELF, (1, -1, 0)), ("least", SHELF, [0, 1, -1]), ("parted", SHELF, (1, -2, 1)), ("parted", SHELF, [2, -2, 0]),
    ("least", TABLE_204, (0, 1, -1, 0, 0, 0)), ("enough", SHELF, 3), ("enough", SHELF, GREAT), ("toofew", SHELF, 2), ("toofew", SHELF, 0),
    ("enough", RANK_0, 0), ("enough", Table((1, 1), (1, 1)), 1), ("best", SHOPS, BEST), ("better", SHOPS, APART),
    ("plan", SHOPS), ("plan", STREET), ("short", SHORT), ("short", NOBODY), ("atmost", SHOPS, 3), ("atmost", SHOPS, GREAT),
    ("above", SHOPS, 2), ("above", SHOPS, -GREAT), ("above", SHORT, GREAT), ("above", NOBODY, 0),
]


class ClaimsCase(Case):
    def check(self, claim, holds):
        """The claim is true or not, the contrary is not or is, and just the true one has a paper."""
        other = contrary(claim)
        self.assertYes(is_claim, claim)
        self.assertYes(is_claim, other)
        self.assertEqual(contrary(other), claim)
        self.assertIs(is_true(claim), holds)
        self.assertIs(is_true(other), not holds)
        self.assertIs(paper_of(other if holds else claim), None)
        right, wrong = (claim, other) if holds else (other, claim)
        paper = paper_of(right)
        self.assertIsNotNone(paper)
        self.assertYes(is_paper_of, right, paper)
        self.assertNo(is_paper_of, wrong, paper)
        self.assertNo(is_paper_of, right, None)
        self.assertNo(is_paper_of, wrong, None)
        return paper


class TestClaims(ClaimsCase):
    def test_interface(self):
        self.assertDefinedIn(module, "words", "is_claim", "is_true", "contrary", "paper_of", "is_paper_of")
        self.assertParameters(words)
        self.assertParameters(is_claim, "value")
        for function in (is_true, contrary, paper_of):
            self.assertParameters(function, "claim")
        self.assertParameters(is_paper_of, "claim", "value")
        self.assertGives(WORDS, words)
        claim = ("enough", SHELF, 2)
        self.assertEqual([is_claim(value=claim), is_true(claim=claim), contrary(claim=claim)], [True, False, ("toofew", SHELF, 2)])
        self.assertEqual([paper_of(claim=claim), is_paper_of(value=None, claim=claim)], [None, False])

    def test_each_word(self):
        seen = {}
        for claim in TRUE:
            self.check(claim, True)
            self.check(contrary(claim), False)
            seen[claim[0]] = True
        self.assertEqual(sorted(seen), sorted([word for line in WORDS for word in line]))

    def test_contrary(self):
        for one, other in WORDS:
            for word, opposite in ((one, other), (other, one)):
                claim = [claim for claim in TRUE if claim[0] in (one, other)][0]
                self.assertGives((opposite,) + claim[1:], contrary, (word,) + claim[1:])
        plan = [(([0, 0, 1], 1), ([0, 1, 0], 1), ((1, 0, 0), 1))]
        claim = ("best", SHOPS, plan)
        found = contrary(claim)
        self.assertSame(found, ("better", SHOPS, plan))
        found[2][0][0][0].append(9)
        found[2].append(9)
        self.assertEqual(plan, [(([0, 0, 1], 1), ([0, 1, 0], 1), ((1, 0, 0), 1))])
        self.assertIs(found[1], SHOPS)
        change = [1, -1, 0]
        found = contrary(("least", SHELF, change))
        found[2].append(1)
        self.assertEqual(change, [1, -1, 0])

    def test_no_claims(self):
        for value in NO_LISTS + [
            (), ("least",), ("least", SHELF), ("least", SHELF, (1, -1, 0), 1), ["least", SHELF, (1, -1, 0)], ("plan",), ("plan", SHOPS, 1),
            ("plan", SHOPS, None), ("enough", SHELF), ("best", SHOPS), ("atmost", SHOPS), ("Least", SHELF, (1, -1, 0)), (SHELF, "least", (1, -1, 0)),
            ("", SHELF, 1), (None, SHELF, 1), ((), SHELF, 1), (0, SHELF, 1), (("least", "parted"), SHELF, (1, -1, 0)), ("states", SHELF, 1),
            ("enough", SHELF, -1), ("atmost", SHOPS, 1, 2), [("plan", SHOPS)], ("price", SHOPS, 3), ("", SHOPS, 1), (None, SHOPS, 1), ("Above", SHOPS, 1),
        ]:
            self.check_none(value)
        for word in ("least", "parted"):
            for value in NO_CHANGES + [(0, 0, 0), [0, 0, 0]]:
                self.check_none((word, SHELF, value))
            for value in NO_TABLES + [SHOPS]:
                self.check_none((word, value, (1, -1, 0)))
        for word in ("enough", "toofew"):
            for value in NO_INTEGERS + [-1, -GREAT]:
                self.check_none((word, SHELF, value))
            for value in NO_TABLES + [SHOPS]:
                self.check_none((word, value, 2))
        for word in ("best", "better"):
            for value in NO_PLANS:
                self.check_none((word, SHOPS, value))
            for value in NO_STREETS:
                self.check_none((word, value, APART))
        for word in ("atmost", "above"):
            for value in NO_INTEGERS:
                self.check_none((word, SHOPS, value))
        for value in NO_STREETS + [still(SHELF, 5), still(FIVE_COLUMNS, 1), still(FIVE_COLUMNS, 5)]:
            for word in ("plan", "short"):
                self.check_none((word, value))
            for word in ("atmost", "above"):
                self.check_none((word, value, 1))

    def check_none(self, value):
        self.assertNo(is_claim, value)
        for function in (is_true, contrary, paper_of):
            self.assertInvalid(InvalidClaim, value, function, value)
        self.assertInvalid(InvalidClaim, value, is_paper_of, value, None)

    def test_five_kinds_may_be_best(self):
        street = still(SHELF, 5)
        self.check(("best", street, noughts(street)), True)
        street = still(FIVE_COLUMNS, 5)
        self.check(("best", street, noughts(street)), True)
        four = still(Table((1, 1, 1, 1), (0, 1, 0, 1)), 4)
        self.check(("plan", four), True)
        self.check(("atmost", four, 0), True)


class TestPapers(ClaimsCase):
    def test_least_and_parted(self):
        self.assertGives([(0, 0, 0), (1, -1, 0)], paper_of, ("least", SHELF, [1, -1, 0]))
        self.assertGives([(-1, 1, 0), (0, 0, 0)], paper_of, ("least", SHELF, [-1, 1, 0]))
        claim = ("least", SHELF, [1, -1, 0])
        for value in ([(0, 0, 0), (1, -1, 0)], ([0, 0, 0], [1, -1, 0]), [[0, 0, 0], (1, -1, 0)]):
            self.assertYes(is_paper_of, claim, value)
        for value in NO_LISTS + [[], [(0, 0, 0)], [(1, -1, 0)], [(1, -1, 0), (0, 0, 0)], [(0, 0, 0), (1, -1, 0), (1, -1, 0)], [(0, 0, 0), (1, 0, -1)],
                                 [(0, 0, False), (1, -1, 0)], [(0, 0, 0), (True, -1, 0)], [(0, 0, 0), None], (0, 0, 0), [(0, 0, 0), (0, 0, 0), (1, -1, 0)]]:
            self.assertNo(is_paper_of, claim, value)
        self.assertNo(is_paper_of, ("least", SHELF, (1, -2, 1)), [(0, 0, 0), (1, -2, 1)])
        claim = ("parted", SHELF, [2, -3, 1])
        for value in ((1, -1, 0), [1, -2, 1], (0, -1, 1), (2, -2, 0)):
            self.assertYes(is_paper_of, claim, value)
        for value in NO_CHANGES + [(0, 0, 0), (2, -3, 1), [2, -3, 1], (-1, 1, 0), (1, 0, -1), (2, -4, 2), (0, -2, 2), [(1, -1, 0)], (True, -1, 0)]:
            self.assertNo(is_paper_of, claim, value)
        for own in some_owns(151, 3, 15):
            table = Table(own, [0] * 3)
            for change in plain_within(own, (4, -4, 3)) + plain_within(own, (-2, 3, 4)):
                if any(change):
                    inside = [row for row in plain_within(own, change) if any(row) and row != change]
                    paper = self.check(("least", table, change), not inside)
                    if inside:
                        self.assertEqual(paper, inner(table, change))
                        self.assertNo(is_paper_of, ("parted", table, change), [paper, paper])
                    else:
                        self.assertEqual(paper, fitting(table, change))
                    for row in plain_within(own, change):
                        self.assertIs(is_paper_of(("parted", table, change), row), row in inside)

    def test_enough_and_too_few(self):
        for table in (SHELF, TWO_WAYS, NO_OWN, RANK_0, Table((2, 3), (1, 0)), Table((1, 1), (1, 1)), Table((3, 4, 0), (4, -4, 1))):
            most = reach(table)
            for many in range(max(0, most - 2), most + 2):
                self.check(("enough", table, many), many >= most)
                lots = least_lots(table)
                self.assertIs(is_paper_of(("enough", table, many), lots), many >= most)
                self.assertIs(is_paper_of(("enough", table, many), tuple([tuple(lot) for lot in lots])), many >= most)
                self.assertNo(is_paper_of, ("toofew", table, many), lots)
                swap = greatest_swap(table)
                self.assertIs(is_paper_of(("toofew", table, many), swap), many < most)
                self.assertNo(is_paper_of, ("enough", table, many), swap)
        claim, lots = ("enough", SHELF, 3), least_lots(SHELF)
        for value in NO_LISTS + [lots[1:], lots[:-1], lots[::-1], lots + lots[:1], [lots], [lot[::-1] for lot in lots],
                                 [lots[0], lots[1], [(-1, 1), (1, True)], lots[3]], [[(-2, 1), (True, 2)]] + lots[1:], [[list(entry) for entry in lot] for lot in lots],
                                 lots[:3] + [[(-1, 2), (2, 2)]], lots[:3] + [None], lots[:3] + [[(-1, 2), None]], lots[:3] + [[(-1, 2), (2,)]]]:
            self.assertNo(is_paper_of, claim, value)
            self.assertNo(is_paper_of, ("best", SHOPS, BEST), value)
        claim = ("toofew", SHELF, 1)
        for value in ([(1, -1, 0), (-1, 1, 0)], ([1, -1, 0], [1, -1, 0], [-1, 0, 1])):
            self.assertYes(is_paper_of, claim, value)
        for value in NO_LISTS + [[(-1, 2, -1)], [], [(1, -1, 0)], [(1, -1, 0), (-1, 1, 0), (1, -1, 0), (-1, 1, 0)], [(1, -1, 0), (1, -1, 0)], [(0, 0, 0)] * 2]:
            self.assertNo(is_paper_of, claim, value)
        self.assertYes(is_paper_of, ("toofew", SHELF, 0), [(-1, 2, -1)])

    def test_best_and_better(self):
        self.assertGives(least_lots(SHELF), paper_of, ("best", SHOPS, BEST))
        self.assertYes(is_paper_of, ("best", SHOPS, BEST), least_lots(SHELF))
        self.assertNo(is_paper_of, ("best", SHOPS, APART), least_lots(SHELF))
        self.assertNo(is_paper_of, ("best", SHOPS, BEST), least_lots(TWO_WAYS))
        self.assertYes(is_paper_of, ("better", SHOPS, APART), SWAP)
        for value in ([], SWAP[:1], [SWAP], least_lots(SHELF)):
            self.assertNo(is_paper_of, ("better", SHOPS, APART), value)
        for street, plans in small_streets(152, 40):
            prices = [plain_cost(street, plan) for plan in plans]
            for plan, price in list(zip(plans, prices))[::max(1, len(plans) // 3)]:
                paper = self.check(("best", street, plan), price == min(prices))
                self.assertIs(is_best(street, plan), price == min(prices))
                if price > min(prices):
                    self.assertTrue(is_bettering(street, plan, paper))

    def test_plan_and_short(self):
        for street, plans in small_streets(153, 40):
            for stock in (street.stock, street.stock + 1, street.stock - 30):
                other = street.with_stock(stock)
                try:
                    plan = some_plan(other)
                except TooMany as error:
                    self.assertTooMany(error.what, error.limit, is_true, ("plan", other))
                    break
                paper = self.check(("plan", other), plan is not None)
                if plan is None:
                    self.assertTrue(is_short_paper(other, paper))
                else:
                    self.assertTrue(is_plan(other, paper))
                    self.assertYes(is_paper_of, ("plan", street), plans[0])
        self.assertYes(is_paper_of, ("short", SHORT), PAPER)
        self.assertNo(is_paper_of, ("short", SHORT), [[((0, 2), 3)]])
        self.assertNo(is_paper_of, ("short", STREET), bank_plan(STREET, [[((2, 0), 3)]]))

    def test_no_house(self):
        self.assertGives(("no house", 1), paper_of, ("short", NOBODY))
        self.assertGives(("no house", 1), paper_of, ("above", NOBODY, 5))
        for claim in (("short", NOBODY), ("above", NOBODY, -1)):
            self.assertYes(is_paper_of, claim, ("no house", 1))
            for value in (("no house", 0), ("no house", 2), ("no house", -1), ("no house", True), ("no house", None), ["no house", 1], ("no house",),
                          ("no house", 1, 1), ("no houses", 1), (1, "no house"), "no house", ("no house", (1,)), (None, 1), ((), 1)):
                self.assertNo(is_paper_of, claim, value)
        self.assertNo(is_paper_of, ("plan", NOBODY), ("no house", 1))
        self.assertNo(is_paper_of, ("short", SHORT), ("no house", 0))
        several = NOBODY.with_kind(0, NOBODY.kinds()[1].with_many(1))
        for position in (0, 1):
            self.assertYes(is_paper_of, ("short", several), ("no house", position))

    def test_at_most_and_above(self):
        claim = ("atmost", SHOPS, 4)
        self.assertYes(is_paper_of, claim, BEST)
        self.assertNo(is_paper_of, claim, APART)
        self.assertYes(is_paper_of, ("atmost", SHOPS, 6), APART)
        self.assertYes(is_paper_of, ("above", SHOPS, 2), BEST)
        self.assertNo(is_paper_of, ("above", SHOPS, 3), BEST)
        self.assertNo(is_paper_of, ("above", SHOPS, 2), APART)
        self.assertYes(is_paper_of, ("above", SHORT, GREAT), PAPER)
        self.assertNo(is_paper_of, ("atmost", SHORT, GREAT), PAPER)
        for street, plans in small_streets(154, 30):
            prices = [plain_cost(street, plan) for plan in plans]
            least = min(prices)
            for number in (least - 1, least, least + 1, max(prices)):
                try:
                    paper = self.check(("atmost", street, number), number >= least)
                except TooMany as error:
                    self.assertIn(error.what, ("sums", "lots"))
                    break
                self.assertEqual(layout_price(street, paper) <= number, number >= least)
                for plan, price in list(zip(plans, prices))[:4]:
                    self.assertIs(is_paper_of(("atmost", street, number), plan), price <= number)
                    self.assertIs(is_paper_of(("above", street, number), plan), least == price > number)

    def test_papers_of_other_claims(self):
        claims = [claim for claim in TRUE if claim[1] is not TABLE_204]
        papers = [paper_of(claim) for claim in claims]
        for claim in claims:
            for paper in papers:
                self.assertFalse(is_paper_of(claim, paper) and is_paper_of(contrary(claim), paper))
                self.assertNo(is_paper_of, contrary(claim), paper)

    def test_papers_are_new(self):
        for claim in TRUE:
            before = repr(claim)
            paper = paper_of(claim)
            if isinstance(paper, list):
                paper.clear()
            self.assertEqual(repr(claim), before)
            self.assertYes(is_paper_of, claim, paper_of(claim))


class TestTooMany(ClaimsCase):
    def check_too_many(self, what, limit, claim, also_papers=True):
        for told in (claim, contrary(claim)):
            self.assertYes(is_claim, told)
            self.assertTooMany(what, limit, is_true, told)
            self.assertTooMany(what, limit, paper_of, told)
        if also_papers:
            self.assertTooMany(what, limit, is_paper_of, claim, None)

    def test_many_least_changes_or_lots(self):
        self.check_too_many("changes", 200, ("enough", TABLE_204, 2))
        self.check_too_many("lots", 300, ("enough", LOTS_301, 2))
        self.check_too_many("lots", 300, ("plan", still(LOTS_201, 1)), False)
        self.check_too_many("lots", 300, ("atmost", still(LOTS_201, 1), 2), False)
        self.assertTooMany("lots", 300, is_paper_of, ("short", still(LOTS_201, 1)), None)
        self.assertTooMany("lots", 300, is_paper_of, ("above", still(LOTS_201, 1), 5), None)
        self.assertYes(is_paper_of, ("plan", still(LOTS_201, 1)), noughts(still(LOTS_201, 1)))

    def test_many_sums(self):
        street = still(SUMS_2016, 1)
        self.check_too_many("sums", 2000, ("best", street, noughts(street)))
        wide = still(WIDE_SUMS, 1)
        self.check_too_many("sums", 2000, ("plan", wide), False)
        self.check_too_many("sums", 2000, ("atmost", wide, 0), False)
        lacking = wide.with_stock(3)
        self.assertTooMany("sums", 2000, is_paper_of, ("short", lacking), bank_plan(lacking, noughts(lacking)))

    def test_least_and_parted_hang_on_no_choices(self):
        change = (30, -30, 30, -30, 0, 0)
        table = Table((1, 1, 1, 1, 1, 1), (0,) * 6)
        self.check(("parted", table, change), True)
        self.assertTooMany("choices", 2000, fitting, table, change)
        claim = ("parted", TABLE_204, (2, -4, 4, 0, -1, 0))
        self.assertEqual(2 * 2 - 4 * 3 + 4 * 3 - 4, 0)
        self.assertIs(is_true(claim), True)
        self.assertIs(is_true(contrary(claim)), False)
        self.assertGives(None, paper_of, contrary(claim))
        self.assertTooMany("changes", 200, paper_of, claim)
        self.assertYes(is_paper_of, claim, (2, 0, 0, 0, -1, 0))
        self.assertNo(is_paper_of, contrary(claim), (2, 0, 0, 0, -1, 0))
        self.check(("least", TABLE_204, (2, 0, 0, 0, -1, 0)), True)

    def test_swaps_of_many_choices(self):
        self.assertTooMany("choices", 2000, is_paper_of, ("toofew", SHELF, 2), [(2000, -2000, 0), (-2000, 2000, 0)])


if __name__ == "__main__":
    unittest.main()
