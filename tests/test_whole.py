"""What the document promises over the whole program [2] to [7]: what one part tells is taken by the others."""

import random
import unittest

from likestreets.bank import bank_plan, banked, is_short_paper, shortage, some_layout, some_plan
from likestreets.basics import fresh
from likestreets.better import better, is_best
from likestreets.claims import contrary, is_claim, is_paper_of, is_true, paper_of
from likestreets.closed import is_closed_list, lacking, reduced, unclosed
from likestreets.desk import Desk
from likestreets.errors import TooMany
from likestreets.exchanges import done, exchange_to, is_exchange, touched, turned_back
from likestreets.houses import cheapest_house, has_house, house_least, some_house
from likestreets.kinds import Kind
from likestreets.least import inner, is_least, least_changes
from likestreets.led import best_plan, best_price, is_steps, steps
from likestreets.lots import inner_lot, is_least_lot, is_lot, is_lot_parts, least_lots, lot_parts
from likestreets.nexts import is_next, next_plan
from likestreets.parted import few_parts, is_parting, parting
from likestreets.plans import all_houses, apart, drawn, is_layout, is_plan, layout_price, told_plan
from likestreets.reach import greatest_lot, greatest_swap, is_greatest_swap, reach
from likestreets.readers import read
from likestreets.saved import is_bettering, saving
from likestreets.scales import grown, most_grown, most_repeated, repeated
from likestreets.streets import Street
from likestreets.stuck import is_stuck, stuck_street
from likestreets.sure import all_plans, best_plans, count_plans, maybe_houses, sure_houses
from likestreets.swaps import is_least_swap, is_swap, is_swap_within, swap_within, things
from likestreets.tables import Table, arranged, pull, signed, widened
from likestreets.texts import is_form, written
from likestreets.towards import is_towards, towards
from likestreets.worths import worth_of, worths
from helpers import NO_OWN, ONE_FREE, SHELF, TWO_WAYS, Case, plain_cost, plain_plans, small_streets, some_street
from test_led import giant_street

TABLES = [SHELF, TWO_WAYS, NO_OWN, ONE_FREE, Table((2, 3), (1, 0)), Table((1, 1), (1, 1)), Table((0, 0), (4, -3)), Table((3, 4, 0), (4, -4, 1)),
          Table((1, -1, 2), (2, 0, 3))]


def as_lists(value):
    """The value with each row as a list, where rows stand in tuples."""
    if isinstance(value, tuple) and value and all([type(number) is int for number in value]):
        return list(value)
    if isinstance(value, (list, tuple)):
        return type(value)([as_lists(part) for part in value])
    return value


def as_tuples(value):
    if isinstance(value, (list, tuple)):
        return tuple([as_tuples(part) for part in value])
    return value


class WholeCase(Case):
    def check_street(self, street, plan):
        """All that is told of a street and a plan of it is taken where it is asked for, and speaks of the same."""
        best = best_plan(street, plan)
        price = best_price(street, plan)
        self.assertEqual((is_plan(street, best), is_best(street, best), layout_price(street, best)), (True, True, price))
        self.assertEqual(is_best(street, plan), layout_price(street, plan) == price)
        self.assertEqual(told_plan(street, as_tuples(best)), best)
        self.assertEqual(drawn(street, best), street.stock)
        self.check_exchanges(street, plan, best)
        self.check_scales(street, plan)
        now = plan
        for exchange in steps(street, plan):
            self.assertTrue(is_bettering(street, now, as_tuples(exchange)))
            now = done(street, now, exchange)
        self.assertEqual(layout_price(street, now), price)
        self.assertTrue(is_steps(street, plan, as_tuples(steps(street, plan))))
        self.check_forms(street, [("layout", plan), ("layout", best), ("exchange", exchange_to(street, plan, best))])
        if apart(street, plan, best) <= 60:
            self.assertTrue(is_towards(street, plan, best, as_tuples(towards(street, plan, best))))
        for kind, share in enumerate(best):
            self.assertTrue(has_house(street, kind) or not share)
            for house, _ in share:
                self.assertGreaterEqual(plain_cost(street.with_kind(kind, street.kinds()[kind].with_many(1)), [[]] * kind + [[(house, 1)]]), house_least(street, kind))

    def check_exchanges(self, street, plan, target):
        exchange = exchange_to(street, plan, target)
        self.assertEqual(touched(street, plan, exchange), apart(street, plan, target))
        self.assertEqual(done(street, plan, exchange), told_plan(street, target))
        self.assertEqual(saving(street, plan, exchange), layout_price(street, plan) - layout_price(street, target))
        back = turned_back(street, plan, exchange)
        self.assertEqual(done(street, target, back), told_plan(street, plan))
        self.assertEqual(saving(street, target, back), -saving(street, plan, exchange))
        self.assertTrue(is_exchange(street, target, as_lists(back)))

    def check_scales(self, street, plan):
        exchange = better(street, plan)
        if exchange is None:
            return
        self.assertLessEqual(touched(street, plan, exchange), street.reach)
        more = grown(street, plan, exchange, most_grown(street, plan, exchange))
        often = repeated(street, plan, exchange, most_repeated(street, plan, exchange))
        self.assertEqual(saving(street, plan, often), most_repeated(street, plan, exchange) * saving(street, plan, exchange))
        self.assertLessEqual(saving(street, plan, more), most_grown(street, plan, exchange) * saving(street, plan, exchange))
        for other in (more, often):
            self.assertTrue(is_plan(street, done(street, plan, other)))

    def check_forms(self, street, values):
        for sort, value in values + [("street", street), ("table", street.table)] + [("kind", kind) for kind in street.kinds()]:
            text = written(sort, value)
            self.assertEqual(read(text)[0], sort)
            self.assertEqual(written(sort, read(text)[1]), text)
            self.assertEqual(written(sort, as_lists(value)), text)

    def check_claims(self, street, plan):
        price = best_price(street, plan)
        for claim in (("best", street, plan), ("plan", street), ("atmost", street, price), ("above", street, price), ("atmost", street, price - 1),
                      ("enough", street.table, street.reach), ("toofew", street.table, street.reach)):
            self.assertTrue(is_claim(claim))
            right = claim if is_true(claim) else contrary(claim)
            paper = paper_of(right)
            self.assertTrue(is_paper_of(right, paper) and is_paper_of(right, fresh(paper)))
            self.assertFalse(is_paper_of(contrary(right), paper))


class TestGuarantees(WholeCase):
    def test_reach(self):
        # A plan is best exactly if no plan, to which an exchange of so many houses leads, is cheaper.
        tight = 0
        for street, plans in small_streets(161, 60):
            least = min([plain_cost(street, plan) for plan in plans])
            for plan in plans[::3]:
                near = [target for target in plans if apart(street, plan, target) <= street.reach]
                cheaper = any([plain_cost(street, target) < plain_cost(street, plan) for target in near])
                self.assertEqual(cheaper, plain_cost(street, plan) > least)
                self.assertEqual(is_best(street, plan), not cheaper)
                self.assertIs(better(street, plan) is None, not cheaper)
                tight += cheaper
        self.assertGreater(tight, 100)

    def test_least_changes(self):
        for table in TABLES:
            least = least_changes(table)
            if len(least) <= 60:
                self.assertTrue(is_closed_list(table, as_lists(least)))
                self.assertEqual((unclosed(table, least), lacking(table, least), reduced(table, least)), (None, None, least))
                if least:
                    self.assertIsNotNone(lacking(table, least[1:]))
            for change in least:
                self.assertTrue(is_least(table, list(change)))
                self.assertIsNone(inner(table, change))
                self.assertEqual(few_parts(table, change), 1)

    def test_the_bank(self):
        for street, plans in small_streets(162, 40):
            for stock in (street.stock, street.stock + 1, street.stock - 9):
                other = street.with_stock(stock)
                try:
                    lack, plan, layout = shortage(other), some_plan(other), some_layout(other)
                except TooMany as error:
                    self.assertIn(error.what, ("sums", "lots"))
                    break
                self.assertEqual(lack == 0, plan is not None)
                self.assertEqual(len(plain_plans(other)) > 0, plan is not None)
                paper = best_plan(banked(other), bank_plan(other, as_tuples(layout)))
                self.assertEqual(is_short_paper(other, as_tuples(paper)), plan is None)
                if plan is not None:
                    self.assertTrue(is_plan(other, plan) and is_best(banked(other), bank_plan(other, plan)))
                    self.assertEqual(worth_of(other), best_price(other, plan))

    def test_one_more(self):
        for street, plans in small_streets(163, 40):
            try:
                plan = best_plan(street, plans[0])
                for more in range(4):
                    row = street.with_stock(street.stock + more)
                    behind = next_plan(row, plan)
                    self.assertEqual(worths(row, 2), [layout_price(row, plan), None if behind is None else layout_price(row, behind)])
                    if behind is None:
                        break
                    self.assertTrue(is_next(row, plan, as_tuples(behind)))
                    plan = behind
            except TooMany as error:
                self.assertIn(error.what, ("sums", "lots"))


class TestStuckStreets(WholeCase):
    def test_as_any_street(self):
        for table in TABLES:
            street, plan, target = stuck_street(table)
            self.assertTrue(is_stuck(table, (street, as_tuples(plan), as_tuples(target))))
            self.assertEqual(street.reach, street.houses)
            self.assertEqual(apart(street, plan, target), street.reach)
            self.assertEqual(exchange_to(street, plan, target), better(street, plan))
            self.assertEqual(len(steps(street, plan)), 1)
            self.assertEqual(best_plan(street, plan), told_plan(street, target))
            self.assertEqual(towards(street, target, plan), [turned_back(street, plan, better(street, plan))])
            self.assertEqual(all_plans(street), sorted([told_plan(street, plan), told_plan(street, target)]))
            self.assertEqual((count_plans(street), best_plans(street)), (2, [told_plan(street, target)]))
            for kind in range(len(street.kinds())):
                rows = sorted([tuple(plan[kind][0][0]), tuple(target[kind][0][0])])
                self.assertEqual(all_houses(street, kind), rows)
                self.assertEqual(sure_houses(street, kind), maybe_houses(street, kind))
                self.assertEqual(sure_houses(street, kind), [tuple(target[kind][0][0])])
                self.assertIn(some_house(street, kind), rows)
                self.assertEqual(house_least(street, kind), min([plain_cost(street, [[]] * kind + [[(row, 1)]]) for row in rows]))
                self.assertIn(cheapest_house(street, kind), rows)
            self.check_street(street, plan)
            self.check_street(street, target)

    def test_claims_and_desks(self):
        for table in TABLES:
            street, plan, target = stuck_street(table)
            if len(street.kinds()) > 4:
                continue
            try:
                self.check_claims(street, plan)
            except TooMany as error:
                self.assertIn(error.what, ("sums", "lots"))
            if street.reach <= 9:
                self.check_desk(street, plan, target)

    def check_desk(self, street, plan, target):
        desk = Desk()
        text = ",".join
        rows = [text([str(number) for number in row]) for row in (street.table.own, street.table.common)]
        desk.do(f"table t {rows[0]} {rows[1]}")
        for at, kind in enumerate(street.kinds()):
            bounds = text([f"{low}:{high}" for low, high in kind.bounds()])
            desk.do(f"kind k{at} {kind.many} {kind.rest} {bounds} " + text([str(slope) for slope, _ in kind.prices()]))
        names = text([f"k{at}" for at in range(len(street.kinds()))])
        shares = ["|".join([text([str(number) for number in share[0][0]]) + f"*{share[0][1]}" for share in layout]) for layout in (plan, target)]
        desk.do_all(f"street s t {street.stock} {names}", f"plan p s {shares[0]}", f"plan q s {shares[1]}", "claim a best p", "claim b best q")
        self.assertEqual((desk["s"], desk["p"], desk["q"]), (street, (street, told_plan(street, plan)), (street, told_plan(street, target))))
        self.assertEqual([desk.do("states"), desk.do("reach t"), desk.do("apart p q"), desk.do("many s"), desk.do("kept p"), desk.do("kept q")],
                         ["a false, b true", str(street.reach), str(street.reach), "2", "no", "yes"])
        desk.attach("a", better(street, plan))
        desk.attach("b", least_lots(street.table))
        parts = [f"{kind}:{text([str(n) for n in house])}:{text([str(n) for n in change])}:{many}" for kind, house, change, many in better(street, plan)]
        saved = layout_price(street, plan) - layout_price(street, target)
        self.assertEqual([desk.do("saving p " + " ".join(parts)), desk.do("exchange p " + " ".join(parts))], [str(saved), "a true"])
        self.assertEqual((desk["p"], desk.fits("a"), desk.fits("b")), (desk["q"], False, True))
        self.assertTrue(all([is_paper_of(desk.claim_of(label), least_lots(street.table)) for label in desk.labels]))


class TestToldValues(WholeCase):
    def test_of_tables(self):
        for table in TABLES:
            lots = least_lots(table)
            self.assertEqual(max([sum([many for _, many in lot]) for lot in lots]), reach(table))
            whole = {}
            for lot in lots:
                self.assertTrue(is_least_lot(table, as_tuples(lot)) and inner_lot(table, lot) == lot)
                for number, many in lot:
                    whole[number] = whole.get(number, 0) + many
            whole = list(whole.items())
            self.assertTrue(is_lot(table, whole) and is_lot_parts(table, whole, as_tuples(lot_parts(table, whole))))
            self.assertIn(greatest_lot(table), lots)
            swap = greatest_swap(table)
            self.assertTrue(is_greatest_swap(table, as_lists(swap)) and is_least_swap(table, swap))
            self.assertTrue(is_least_lot(table, things(table, swap)))
            twice = swap + swap
            self.assertEqual(is_swap(table, twice), len(twice) <= 60)
            if len(twice) <= 12:
                self.assertTrue(is_swap_within(table, twice, swap_within(table, twice)))
            total = tuple([9 * sum(column) for column in zip(*least_changes(table)[:3])])
            self.assertTrue(is_parting(table, total, as_lists(parting(table, total))))
            for sort, value in [("changes", least_changes(table)[:100]), ("changes", swap)] + [("lot", lot) for lot in lots]:
                self.assertEqual(read(written(sort, value)), (sort, value))
                self.assertTrue(is_form(sort, as_tuples(value)))

    def test_tables_of_tables(self):
        for table in TABLES:
            order = list(range(table.columns))[::-1]
            mirror = arranged(table, order)
            self.assertEqual(least_changes(mirror), sorted([row[::-1] for row in least_changes(table)]))
            self.assertEqual((least_lots(mirror), reach(mirror)), (least_lots(table), reach(table)))
            other = signed(table, 0)
            self.assertEqual(least_changes(other), sorted([(-row[0],) + row[1:] for row in least_changes(table)]))
            self.assertEqual(least_lots(other), least_lots(table))
            if table.columns <= 4:
                self.assertGreaterEqual(reach(widened(table)), reach(table))
                self.assertEqual({pull(widened(table), row) for row in least_changes(widened(table))},
                                 {pull(table, row) for row in least_changes(table)} | {1, -1})

    def test_of_small_streets(self):
        source = random.Random(164)
        for street, plans in small_streets(165, 60):
            plan, target = source.choice(plans), source.choice(plans)
            self.check_street(street, plan)
            self.check_exchanges(street, plan, target)
            try:
                self.check_claims(street, plan)
            except TooMany as error:
                self.assertIn(error.what, ("sums", "lots"))
            if len(plans) <= 300:
                self.assertEqual(all_plans(street), sorted(plans))
                self.assertIn(best_plan(street, plan), best_plans(street))

    def test_of_streets_of_the_bank(self):
        source = random.Random(166)
        looked = 0
        while looked < 12:
            table = source.choice(TABLES[:7])
            street, plan = some_street(source, table, [source.randint(0, 4) for _ in range(source.randint(1, 3))], 2)
            other = street.with_stock(street.stock + source.choice([-1, 0, 2]))
            try:
                bank, start = banked(other), bank_plan(other, plan)
                self.check_street(bank, start)
            except TooMany as error:
                self.assertIn(error.what, ("sums", "lots"))
                continue
            looked += 1
            self.assertTrue(is_layout(other, [[(house[:-2], many) for house, many in share] for share in best_plan(bank, start)[:-1]]))
            self.assertEqual(best_price(bank, start), shortage(other))
            # The bank of a bank: nothing more is kept or lent, as there is a plan.
            if bank.table.columns <= 4 and len(bank.kinds()) <= 4:
                try:
                    self.assertEqual(shortage(bank), 0)
                except TooMany as error:
                    self.assertIn(error.what, ("sums", "lots"))

    def test_of_many_houses(self):
        source = random.Random(167)
        for _ in range(15):
            street, plan = giant_street(source, 10 ** 20, source.choice([3, 10 ** 18]))
            self.check_street(street, plan)
            try:
                self.assertEqual(worth_of(street), best_price(street, plan))
                self.assertEqual(shortage(street), 0)
                self.check_claims(street, plan)
            except TooMany as error:
                self.assertIn(error.what, ("sums", "lots"))

    def test_houses_told_as_one_kind_or_two(self):
        kind = Kind(5, 3, [(0, 3), (-1, 2), (0, 2)], [(0, [(1, 3)]), (2, [(0, 1), (1, 1)]), (1, [(1, 4)])])
        for stock in (-4, 0, 7, 12, 30):
            whole = Street(SHELF, [kind], stock)
            parted = Street(SHELF, [kind.with_many(2), kind.with_many(0), kind.with_many(3)], stock)
            self.assertEqual(worth_of(whole), worth_of(parted))
            self.assertEqual(shortage(whole), shortage(parted))


class TestArguments(WholeCase):
    def test_lists_and_tuples_are_both_let(self):
        for street, plans in small_streets(168, 25):
            plan, target = plans[0], plans[-1]
            exchange = exchange_to(street, plan, target)
            for change in (as_tuples, as_lists, fresh):
                one, two, told = change(plan), change(target), change(exchange)
                self.assertEqual(apart(street, one, two), apart(street, plan, target))
                self.assertEqual(done(street, one, told), done(street, plan, exchange))
                self.assertEqual(saving(street, one, told), saving(street, plan, exchange))
                self.assertEqual(is_best(street, one), is_best(street, plan))
                self.assertEqual(best_price(street, one), best_price(street, plan))
                self.assertTrue(is_steps(street, one, change(steps(street, plan))))
                self.assertTrue(is_towards(street, one, two, change(towards(street, plan, target))))
                self.assertEqual(is_true(("best", street, one)), is_best(street, plan))
                self.assertEqual(written("layout", one), written("layout", plan))


if __name__ == "__main__":
    unittest.main()
