"""The examples of the interface, as they stand there."""

import doctest
import os
import unittest

EXAMPLES = r'''
>>> from likestreets.rows import fits, length_of, less, meet, plus, times, worth
>>> [plus([1, -1], (0, 2)), less((1, -1), [0, 2]), times([1, -1], -3), worth([1, 2], [3, -1])]
[(1, 1), (1, -3), (-3, 3), 1]
>>> [fits([1, 0, -1], (2, -1, -1)), fits([1, 1], [2, -1]), meet([3, -2, 1], [1, -5, -1]), length_of([3, -2, 1])]
[True, False, (1, -2, 0), 6]
>>> from likestreets.tables import Table, arranged, is_change, pull, signed, widened, with_column
>>> shelf = Table([1, 1, 1], [0, 1, 2])
>>> [is_change(shelf, [1, -2, 1]), is_change(shelf, [1, 0, 1]), pull(shelf, [1, 0, -1]), shelf.columns, shelf]
[True, False, -2, 3, Table((1, 1, 1), (0, 1, 2))]
>>> [arranged(shelf, [2, 0, 1]).common, signed(shelf, 2).own, widened(shelf).common, with_column(shelf, 0, 4).own]
[(2, 0, 1), (1, 1, -1), (0, 1, 2, 1, -1), (1, 1, 1, 0)]
>>> from likestreets.bases import basis, divisor, is_basis, rank, spans, sums_in
>>> [rank(shelf), is_basis(shelf, basis(shelf)), is_basis(shelf, [[1, -1, 0], (1, 1, -2)]), divisor([[1, 2, 3], [1, 0, 1]])]
[2, True, False, 2]
>>> [sums_in(shelf, [[1, -1, 0], [0, 1, -1]], [1, -2, 1]), spans(shelf, [[1, -1, 0], [1, 1, -2], [0, 3, -3]])]
[[1, -1], True]
>>> from likestreets.least import fitting, inner, is_least, least_changes
>>> from likestreets.tables import Table
>>> shelf = Table([1, 1, 1], [0, 1, 2])
>>> [least_changes(shelf)[:3], is_least(shelf, [1, -2, 1]), inner(shelf, [1, -2, 1]), inner(shelf, [0, 1, -1])]
[[(-1, 0, 1), (-1, 1, 0), (0, -1, 1)], False, (0, -1, 1), None]
>>> [fitting(shelf, (2, -2, 0)), len(least_changes(Table([2, 3], [1, 1])))]
[[(0, 0, 0), (1, -1, 0), (2, -2, 0)], 2]
>>> from likestreets.parted import few_parts, is_parting
>>> [is_parting(shelf, [2, -3, 1], [((1, -1, 0), 2), ([0, -1, 1], 1)]), is_parting(shelf, [1, -1, 0], [((1, 0, -1), 1), ((0, -1, 1), 1)]), few_parts(shelf, [2, -3, 1])]
[True, False, 3]
>>> few_parts(Table([1, 2, 3], [0, 0, 1]), [3, 3, -3])
2
>>> from likestreets.closed import is_closed_list, lacking, reduced, unclosed
>>> some = [(1, -1, 0), (-1, 1, 0), (0, 1, -1), (0, -1, 1)]
>>> [unclosed(shelf, some), lacking(shelf, some), is_closed_list(shelf, some + [[1, 0, -1], [-1, 0, 1]]), reduced(shelf, [[1, -2, 1], [1, -1, 0], [0, 0, 0]])]
[(0, 2), (-1, 0, 1), True, [(1, -1, 0)]]
>>> from likestreets.pulls import pulls, with_pull
>>> from likestreets.tables import Table
>>> shelf = Table((1, 1, 1), (0, 1, 2))
>>> [pulls(shelf), with_pull(shelf, 1), pulls(Table((2, 3), (1, 0))), with_pull(shelf, 5)]
[[-2, -1, 1, 2], [(-1, 1, 0), (0, -1, 1)], [-3, 3], []]
>>> from likestreets.lots import inner_lot, is_lot, is_lot_parts, least_lots
>>> [least_lots(shelf), inner_lot(shelf, [(1, 3), (-1, 3)]), is_lot(shelf, [(2, 1), (-1, 1)])]
[[[(-2, 1), (1, 2)], [(-2, 1), (2, 1)], [(-1, 1), (1, 1)], [(-1, 2), (2, 1)]], [(-1, 1), (1, 1)], False]
>>> is_lot_parts(shelf, [(1, 3), (-1, 1), (-2, 1)], [([(-1, 1), (1, 1)], 1), ([(1, 2), (-2, 1)], 1)])
True
>>> from likestreets.swaps import is_least_swap, is_swap, is_swap_within, things
>>> [is_swap(shelf, [(1, 0, -1)]), is_least_swap(shelf, [(-1, 1, 0), (0, -1, 1), [1, 0, -1]]), is_least_swap(shelf, [(-1, 2, -1)]), things(shelf, [(1, 0, -1), (-1, 0, 1)])]
[False, True, True, [(-2, 1), (2, 1)]]
>>> is_swap_within(shelf, [(-1, 1, 0), (1, -1, 0), (-2, 2, 0), (2, -2, 0)], [(0, 0, 0), (0, 0, 0), (-1, 1, 0), (1, -1, 0)])
True
>>> from likestreets.reach import is_greatest_swap, reach
>>> [reach(shelf), reach(Table((2, 3), (1, 0))), reach(Table((1, 1), (1, 1))), reach(Table((3,), (1,)))]
[3, 2, 1, 0]
>>> [is_greatest_swap(shelf, [(1, -1, 0), (-1, 0, 1), (0, 1, -1)]), is_greatest_swap(shelf, [(1, 0, -1), (-1, 0, 1)])]
[True, False]
>>> from likestreets.prices import is_price, plus_prices, price_at, slope_at
>>> [price_at((1, [(2, 3)]), 4), slope_at((1, [(2, 3)]), 1), slope_at((1, [(2, 3)]), 2), is_price((0, [(2, 1), (2, 1)]))]
[10, 1, 4, False]
>>> plus_prices((1, [(2, 3)]), (-1, [(0, 1), (2, 1)]))
(0, [(0, 1), (2, 4)])
>>> from likestreets.kinds import Kind
>>> shop = Kind(2, 1, [(0, 1), (0, 1), (0, 1)], [(0, []), (3, []), (1, [])])
>>> [shop.columns, shop.with_many(10 ** 20).many, shop == shop.with_many(3).with_many(2), shop.prices()[1]]
[3, 100000000000000000000, True, (3, [])]
>>> from likestreets.streets import Street
>>> from likestreets.tables import Table
>>> street = Street(Table([1, 1, 1], [0, 1, 2]), [shop, shop.with_many(1)], 3)
>>> [street.houses, street.reach, street.with_stock(4).stock, street == street.with_kind(1, shop)]
[3, 3, 4, False]
>>> from likestreets.plans import all_houses, apart, drawn, is_plan, layout_price
>>> one, two = [[((0, 1, 0), 2)], [((0, 1, 0), 1)]], [[([0, 0, 1], 1), ((1, 0, 0), 1)], [((0, 1, 0), 1)]]
>>> [all_houses(street, 0), drawn(street, one), is_plan(street, two), layout_price(street, one), layout_price(street, two), apart(street, one, two)]
[[(0, 0, 1), (0, 1, 0), (1, 0, 0)], 3, True, 9, 4, 2]
>>> from likestreets.exchanges import done, is_exchange, touched, turned_back
>>> street = Street(Table([1, 1, 1], [0, 1, 2]), [Kind(3, 1, [(0, 1)] * 3, [(0, []), (1, []), (5, [])])], 3)
>>> plan, swap = [[((0, 0, 1), 1), ((0, 1, 0), 1), ((1, 0, 0), 1)]], [(0, (0, 0, 1), (0, 1, -1), 1), (0, (1, 0, 0), (-1, 1, 0), 1)]
>>> (touched(street, plan, swap), done(street, plan, swap), is_exchange(street, plan, swap[:1]), turned_back(street, plan, swap)[0])
(2, [[((0, 1, 0), 3)]], False, (0, (0, 1, 0), (0, -1, 1), 1))
>>> from likestreets.saved import is_bettering, saving
>>> (saving(street, plan, swap), is_bettering(street, plan, swap), is_bettering(street, plan, []))
(3, True, False)
>>> from likestreets.better import better, is_best
>>> (is_best(street, plan), is_best(street, [[((0, 1, 0), 3)]]), is_bettering(street, plan, better(street, plan)))
(False, True, True)
>>> from likestreets.stuck import is_stuck, stuck_street
>>> tight, first, last = stuck_street(Table([1, 1, 1], [0, 1, 2]))
>>> (tight.houses, is_stuck(tight.table, (tight, first, last)), is_stuck(tight.table, (tight, last, first)), stuck_street(Table([1], [1])))
(3, True, False, None)
>>> from likestreets.scales import grown, most_grown, most_repeated, repeated
>>> even = Street(Table((1, 1), (0, 1)), [Kind(4, 2, [(0, 2), (0, 2)], [(0, []), (0, [(1, 1)])])], 4)
>>> ends, one = [[((0, 2), 2), ((2, 0), 2)]], [(0, (0, 2), (1, -1), 1), (0, (2, 0), (-1, 1), 1)]
>>> [most_grown(even, ends, one), most_repeated(even, ends, one), grown(even, ends, one, 2), repeated(even, ends, one, 2)]
[2, 2, [(0, (0, 2), (2, -2), 1), (0, (2, 0), (-2, 2), 1)], [(0, (0, 2), (1, -1), 2), (0, (2, 0), (-1, 1), 2)]]
>>> from likestreets.led import best_plan, best_price, is_steps
>>> [best_price(even, ends), best_plan(even, ends), is_steps(even, ends, [one, one]), is_steps(even, ends, [one])]
[0, [[((1, 1), 4)]], True, False]
>>> from likestreets.towards import is_towards
>>> [is_towards(even, ends, [[((1, 1), 4)]], [one, one]), is_towards(even, ends, [[((1, 1), 4)]], [repeated(even, ends, one, 2)])]
[True, False]
>>> from likestreets.houses import cheapest_house, has_house, house_least
>>> street = Street(Table((1, 1), (0, 1)), [Kind(3, 2, [(0, 2), (0, 2)], [(0, []), (1, [])])], 4)
>>> [has_house(street, 0), cheapest_house(street, 0), house_least(street, 0)]
[True, (2, 0), 0]
>>> from likestreets.bank import bank_plan, banked, is_short_paper, shortage, some_plan
>>> [bank_plan(street, [[((2, 0), 3)]]), shortage(street), shortage(street.with_stock(9)), some_plan(street.with_stock(9))]
[[[((2, 0, 0, 0), 3)], [((0, 0, 4, 0), 1)]], 0, 3, None]
>>> [is_short_paper(street.with_stock(9), [[((0, 2, 0, 0), 3)], [((0, 0, 3, 0), 1)]]), is_short_paper(street, [[((2, 0, 0, 0), 3)], [((0, 0, 4, 0), 1)]]), banked(street).kinds()[1].bounds()]
[True, False, [(0, 0), (0, 0), (0, 10), (0, 10)]]
>>> from likestreets.nexts import is_next, next_plan
>>> shop = Kind(3, 2, [(0, 2), (0, 2)], [(0, []), (0, [(0, 1), (1, 1)])])
>>> row = Street(Table((1, 1), (0, 1)), [shop], 1)
>>> [next_plan(row, [[((2, 0), 2), ((1, 1), 1)]]), is_next(row, [[((2, 0), 2), ((1, 1), 1)]], [[((0, 2), 1), ((2, 0), 2)]])]
[[[((1, 1), 2), ((2, 0), 1)]], False]
>>> from likestreets.worths import worth_of, worths
>>> [worth_of(row), worths(row, 7), worths(Street(Table((0, 0), (1, 2)), [Kind(1, 0, [(0, 5), (0, 5)], [(1, []), (1, [])])], 0), 6)]
[1, [1, 2, 3, 5, 7, 9, None], [0, 1, 1, 2, 2, 3]]
>>> from likestreets.sure import all_plans, count_plans, maybe_houses, sure_houses
>>> [count_plans(row.with_stock(3)), all_plans(row.with_stock(2)), sure_houses(row.with_stock(2), 0), maybe_houses(row.with_stock(3), 0)]
[2, [[[((0, 2), 1), ((2, 0), 2)]], [[((1, 1), 2), ((2, 0), 1)]]], [(1, 1), (2, 0)], [(1, 1)]]
>>> from likestreets.texts import is_form, written
>>> [written("row", [1, -2]), written("table", Table((1, 1), (0, 1))), written("lot", [(1, 2), (-2, 1)]), is_form("price", (1, [(0, 0)]))]
['row 1 -2\n', 'table\nown 1 1\ncommon 0 1\n', 'lot\npull -2 1\npull 1 2\n', False]
>>> from likestreets.readers import read
>>> [read("price 3\nbend 0 2\n"), read("layout\nhouses\nhouse 2 1 0\nhouses\n"), read("exchange\nfrom 0 1 1 0\nby -1 1\n")]
[('price', (3, [(0, 2)])), ('layout', [[((1, 0), 2)], []]), ('exchange', [(0, (1, 0), (-1, 1), 1)])]
>>> from likestreets.claims import contrary, is_paper_of, is_true
>>> boxes = Table((1, 1, 1), (0, 1, 2))
>>> [is_true(("least", boxes, [1, -1, 0])), contrary(("enough", boxes, 3)) == ("toofew", boxes, 3), is_true(("enough", boxes, 2))]
[True, True, False]
>>> [is_paper_of(("parted", boxes, (2, -2, 0)), (1, -1, 0)), is_paper_of(("toofew", boxes, 2), [(1, -1, 0), (1, -1, 0), (-1, 0, 1)])]
[True, True]
>>> from likestreets.commands import is_command, is_deed
>>> [is_command("table t 1,1,1 0,1,2"), is_command("table t 1,1 0"), is_command("kind k 3 5 0:9,0:4 1,0/5+2"), is_command("kind k 3 5 9:0 1")]
[True, False, True, False]
>>> [is_deed("exchange p 0:1,0:-1,1:2"), is_deed("reach t"), is_command("plan p s 1,0*2;0,1*1|-")]
[True, False, True]
>>> from likestreets.desk import Desk
>>> desk = Desk()
>>> desk.do_all("table t 1,1 0,1", "kind k 2 3 0:3,0:3 1,0", "kind n 1 3 0:3,0:3 0,2", "street s t 4 k,n", "plan p s 0,3*1;3,0*1|2,1*1", "claim b best p", "price p", "exchange p 0:3,0:-1,1:1 1:2,1:1,-1:1", "price p")
['-', '-', '-', '-', '-', 'b false', '5', 'b true', '2']
>>> [desk.do("reach t"), desk.do("pulls t"), desk.do("changes t"), desk.do("shown p"), desk.do("undo"), desk.do("stock s 30"), desk.do("shortage s")]
['2', '-1 1', '-1,1 1,-1', 'plan 0,3*1;2,1*1|3,0*1', 'exchange p 0:3,0:-1,1:1 1:2,1:1,-1:1', '-', '21']
'''


README = os.path.join(os.path.dirname(os.path.dirname(os.path.abspath(__file__))), "README.md")


class TestExamples(unittest.TestCase):
    def check(self, text, many):
        examples = doctest.DocTestParser().get_doctest(text, {}, "examples", None, None)
        told = []
        failed, tried = doctest.DocTestRunner(verbose=False).run(examples, out=told.append)
        self.assertEqual(failed, 0, "".join(told))
        self.assertEqual(tried, many)

    def test_interface(self):
        self.check(EXAMPLES, 95)

    def test_readme(self):
        with open(README, encoding="ascii") as file:
            text = file.read()
        self.check(text, text.count(">>> "))


if __name__ == "__main__":
    unittest.main()
