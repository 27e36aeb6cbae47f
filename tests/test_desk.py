"""A desk: its commands, deeds, labels and papers [95] to [98]."""

import unittest

from likestreets import desk as module
from likestreets.bank import banked, shortage
from likestreets.claims import contrary, paper_of
from likestreets.desk import Desk, Trial, tried
from likestreets.errors import (
    CommandFailed, InvalidClaim, InvalidCommand, InvalidExchange, InvalidKind, InvalidKinds, InvalidLines, InvalidOrder,
    InvalidPaper, InvalidPlan, InvalidRow, LabelTaken, NameTaken, NothingToRedo, NothingToUndo, OtherStreet, TooMany,
    UnknownLabel, UnknownName, UnlikeLengths, WrongThing,
)
from likestreets.exchanges import done
from likestreets.kinds import Kind
from likestreets.streets import Street
from likestreets.tables import Table
from helpers import NO_LISTS, Case

BEGIN = ("table t 1,1 0,1", "kind k 2 3 0:3,0:3 1,0", "kind n 1 3 0:3,0:3 0,2", "street s t 4 k,n", "plan p s 0,3*1;3,0*1|2,1*1")
MOVE = "exchange p 0:3,0:-1,1:1 1:2,1:1,-1:1"
TABLE = Table((1, 1), (0, 1))
KIND = Kind(2, 3, [(0, 3), (0, 3)], [(1, []), (0, [])])
OTHER = Kind(1, 3, [(0, 3), (0, 3)], [(0, []), (2, [])])
STREET = Street(TABLE, [KIND, OTHER], 4)
PLAN = [[((0, 3), 1), ((3, 0), 1)], [((2, 1), 1)]]
BEHIND = [[((0, 3), 1), ((2, 1), 1)], [((3, 0), 1)]]


def begun(*more):
    """A desk with one thing of each kind, and what else is done."""
    desk = Desk()
    desk.do_all(*BEGIN, *more)
    return desk


def shown(desk):
    """All that is seen of a desk."""
    return (desk.names, desk.labels, len(desk), desk.lines(), desk.do("states"), [desk.do("shown " + name) for name in desk.names],
            [desk[name] for name in desk.names], [desk.do("claimed " + label) for label in desk.labels], [desk.fits(label) for label in desk.labels])


def redone(desk):
    """What a copy of the desk can do again, and what it can take back."""
    other, lines = desk.copy(), []
    try:
        while True:
            lines.append(other.do("redo"))
    except NothingToRedo:
        pass
    return lines


class DeskCase(Case):
    def assertStays(self, desk, error, told, function, *arguments):
        """The call raises just this error, and nothing of the desk is changed."""
        before, again = shown(desk), redone(desk)
        self.assertFails(error, told, function, *arguments)
        self.assertEqual(shown(desk), before)
        self.assertEqual(redone(desk), again)

    def assertAnswers(self, desk, **answers):
        """The commands, blanks told by underlines, have these answers, and change nothing."""
        before, again = shown(desk), redone(desk)
        for command, answer in answers.items():
            self.assertEqual(desk.do(command.replace("_", " ")), answer)
            self.assertEqual(desk(command.replace("_", " ")), answer)
        self.assertEqual(shown(desk), before)
        self.assertEqual(redone(desk), again)


class TestInterface(DeskCase):
    def test_interface(self):
        self.assertDefinedIn(module, "Desk", "Trial", "tried")
        for name in ("do", "__call__", "do_all", "attempt", "claim_of", "attach", "fits", "lines", "copy", "again", "names", "labels",
                     "__len__", "__getitem__", "__contains__"):
            self.assertIn(name, vars(Desk))
        for name in ("__enter__", "__exit__"):
            self.assertIn(name, vars(Trial))
        self.assertParameters(Desk)
        self.assertParameters(Desk.do, "self", "command")
        self.assertParameters(Desk.__call__, "self", "command")
        self.assertParameters(Desk.claim_of, "self", "label")
        self.assertParameters(Desk.attach, "self", "label", "paper")
        self.assertParameters(Desk.fits, "self", "label")
        self.assertParameters(Desk.again, "lines")
        self.assertParameters(Trial, "desk")
        self.assertParameters(tried, "desk", "action")

    def test_named_arguments(self):
        desk = Desk.again(lines=list(BEGIN))
        self.assertEqual(desk.do(command="reach t"), "2")
        self.assertEqual(desk(command="claim b best p"), "b false")
        self.assertEqual(desk.claim_of(label="b"), ("best", STREET, PLAN))
        desk.attach(paper=paper_of(("better", STREET, PLAN)), label="b")
        self.assertIs(desk.fits(label="b"), True)
        self.assertEqual(tried(action=len, desk=desk), 6)
        with Trial(desk=desk) as held:
            self.assertIs(held, desk)

    def test_told(self):
        desk = Desk()
        self.assertEqual(desk.do_all(*BEGIN, "claim b best p", "price p", MOVE, "price p"), ["-", "-", "-", "-", "-", "b false", "5", "b true", "2"])
        self.assertEqual([desk.do("reach t"), desk.do("pulls t"), desk.do("changes t"), desk.do("shown p"), desk.do("undo"), desk.do("stock s 30"),
                          desk.do("shortage s")], ["2", "-1 1", "-1,1 1,-1", "plan 0,3*1;2,1*1|3,0*1", MOVE, "-", "21"])

    def test_nothing_at_first(self):
        desk = Desk()
        self.assertEqual(shown(desk), ([], [], 0, [], "-", [], [], [], []))
        self.assertAnswers(desk, names="-", states="-")
        self.assertStays(desk, NothingToUndo, {}, desk.do, "undo")
        self.assertStays(desk, NothingToRedo, {}, desk.do, "redo")

    def test_objects_of_one_desk_are_no_others(self):
        one, two = Desk(), Desk()
        one.do(BEGIN[0])
        self.assertEqual((one.names, two.names), (["t"], []))

    def test_not_iterated_over(self):
        self.assertRaises(TypeError, list, begun())


class TestKept(DeskCase):
    def test_names_and_labels(self):
        desk = begun("claim z best p", "claim a least t 1,-1")
        self.assertGives(["k", "n", "p", "s", "t"], lambda: desk.names)
        self.assertGives(["a", "z"], lambda: desk.labels)
        self.assertGives(7, lambda: len(desk))
        self.assertAnswers(desk, names="k n p s t", states="a true, z false")

    def test_things(self):
        desk = begun()
        self.assertEqual((desk["t"], desk["k"], desk["n"], desk["s"]), (TABLE, KIND, OTHER, STREET))
        self.assertGives((STREET, PLAN), desk.__getitem__, "p")
        desk["p"][1].clear()
        desk["p"][1][0].append(3)
        self.assertGives((STREET, PLAN), desk.__getitem__, "p")
        for value in NO_LISTS + ["", "u", "T", "tt", [], ["t"], ("t",), STREET]:
            self.assertInvalid(UnknownName, value, desk.__getitem__, value)
            self.assertNo(desk.__contains__, value)
            self.assertIs(value in desk, False)
        for name in desk.names:
            self.assertIs(name in desk, True)
        desk.do("claim u best p")
        self.assertIs("u" in desk, False)

    def test_shown(self):
        desk = begun("kind c 0 -3 -4:-4,0:9,5:7 -1/-2+3/0+1,0,7/5+10", "plan q s 1,2*2|3,0*1", "kind e 0 9 0:0,0:0 0,0", "street v t 0 e,k,e", "houses k 0",
                     "street w t 0 e,k,e")
        self.assertAnswers(desk, shown_t="table 1,1 0,1", shown_k="kind 0 3 0:3,0:3 1,0", shown_c="kind 0 -3 -4:-4,0:9,5:7 -1/-2+3/0+1,0,7/5+10",
                           shown_s="street 4 2", shown_p="plan 0,3*1;3,0*1|2,1*1", shown_q="plan 1,2*2|3,0*1", shown_v="street 0 3")
        desk.do_all("drop q", "plan q w -|-|-")
        self.assertAnswers(desk, shown_q="plan -|-|-", shown_w="street 0 3")

    def test_shown_things_are_made_again(self):
        desk = begun("kind c 0 -3 -4:-4,0:9,5:7 -1/-2+3/0+1,0,7/5+10", "table x -4,4,0 1,-1,2")
        for name, where in (("t", ""), ("x", ""), ("k", ""), ("c", ""), ("p", "s ")):
            word, rest = desk.do("shown " + name).split(" ", 1)
            self.assertEqual(desk.do(f"{word} again {where}{rest}"), "-")
            self.assertEqual(desk["again"], desk[name])
            desk.do("drop again")

    def test_plans_are_told_sorted(self):
        desk = begun("plan q s 3,0*1;0,3*1|2,1*1")
        self.assertEqual(desk.do("shown q"), "plan 0,3*1;3,0*1|2,1*1")
        self.assertEqual(desk["q"], (STREET, PLAN))

    def test_made_of_others(self):
        desk = begun("copy u t", "copy l k", "copy r s", "copy q p")
        self.assertEqual((desk["u"], desk["l"], desk["r"], desk["q"]), (TABLE, KIND, STREET, (STREET, PLAN)))
        desk = begun("arrange u t 10", "widen w t", "bank b s")
        self.assertEqual((desk["u"], desk["w"], desk["b"]), (Table((1, 1), (1, 0)), Table((1, 1, 0, 0), (0, 1, 1, -1)), banked(STREET)))
        self.assertEqual(desk.do("arrange v w 3021"), "-")
        self.assertEqual(desk["v"], Table((0, 1, 0, 1), (-1, 0, 1, 1)))

    def test_changed(self):
        desk = begun("stock s -9", "houses k 7", MOVE)
        self.assertEqual(desk["s"], STREET.with_stock(-9))
        self.assertEqual(desk["k"], KIND.with_many(7))
        self.assertEqual(desk["p"], (STREET, BEHIND))
        self.assertEqual(done(STREET, PLAN, [(0, (3, 0), (-1, 1), 1), (1, (2, 1), (1, -1), 1)]), BEHIND)

    def test_what_a_thing_was_made_of_may_be_dropped(self):
        desk = begun("houses k 9", "drop n", "drop t", "stock s 3")
        self.assertEqual(desk["p"], (STREET, PLAN))
        self.assertEqual(desk["s"], STREET.with_stock(3))
        desk.do_all("drop s", MOVE)
        self.assertEqual(desk.names, ["k", "p"])
        self.assertEqual(desk["p"], (STREET, BEHIND))


class TestAnswers(DeskCase):
    def test_tables(self):
        desk = begun("table one 3 1", "table z 0,0 2,0")
        for command, answer in (("pull t 5,-7", "-7"), ("pull t 3,0", "0"), ("changes t", "-1,1 1,-1"), ("changes one", "-"), ("changes z", "-1,0 0,-1 0,1 1,0"),
                                ("pulls t", "-1 1"), ("pulls one", "-"), ("pulls z", "-2 0 2"), ("reach t", "2"), ("reach one", "0"), ("reach z", "2")):
            self.assertEqual(desk.do(command), answer)
        self.assertStays(desk, UnlikeLengths, {}, desk.do, "pull t 1")

    def test_streets(self):
        desk = begun("kind e 1 9 0:1,0:1 0,0", "street none t 0 e", "kind far 1 0 -200:200,-200:200 0,0", "street wide t 0 far", "drop n", "drop p", "kind lots 61 3 0:3,0:3 0,0", "street big t 0 lots")
        for command, answer in (("rooms s 0", "0,3 1,2 2,1 3,0"), ("rooms none 0", "-"), ("worth s", "2"), ("shortage s", "0"), ("many s", "7"), ("worth none", "none"),
                                ("shortage none", "none"), ("many none", "0")):
            self.assertEqual(desk.do(command), answer, command)
        desk.do("stock s 12")
        self.assertEqual([desk.do("worth s"), desk.do("shortage s"), desk.do("many s")], ["none", "3", "0"])
        self.assertEqual(shortage(desk["s"]), 3)
        for value in (2, 5, 10 ** 29):
            self.assertStays(desk, InvalidKind, {"value": value}, desk.do, f"rooms s {value}")
        for command, what, limit in (("rooms wide 0", "houses", 300), ("many wide", "houses", 300), ("many big", "many", 60)):
            self.assertStays(desk, TooMany, {"what": what, "limit": limit}, desk.do, command)

    def test_plans(self):
        desk = begun("copy q p", "exchange q 0:3,0:-1,1:1 1:2,1:1,-1:1", "stock s 5", "plan r s 0,3*1;1,2*1|3,0*1")
        for command, answer in (("price p", "5"), ("price q", "2"), ("kept p", "no"), ("kept q", "yes"), ("saving p 0:3,0:-1,1:1 1:2,1:1,-1:1", "3"),
                                ("saving q 0:2,1:1,-1:1 1:3,0:-1,1:1", "-3"), ("apart p q", "2"), ("apart q p", "2"), ("apart p p", "0")):
            self.assertEqual(desk.do(command), answer, command)
        self.assertStays(desk, OtherStreet, {"name": "r"}, desk.do, "apart p r")
        self.assertStays(desk, OtherStreet, {"name": "q"}, desk.do, "apart r q")
        wrong = [(0, (3, 0), (-1, 1), 1)]
        self.assertStays(desk, InvalidExchange, {"value": wrong}, desk.do, "saving p 0:3,0:-1,1:1")
        desk.do_all("kind e 1 9 0:9,0:9 0,0", "street f t 1 e,e", "plan g f 8,1*1|9,0*1")
        self.assertStays(desk, OtherStreet, {"name": "g"}, desk.do, "apart p g")
        self.assertStays(desk, WrongThing, {"name": "t"}, desk.do, "apart g t")

    def test_states(self):
        desk = begun("claim z best p", "claim a least t 1,-1", "claim s enough t 2")
        for command, answer in (("state z", "false"), ("state a", "true"), ("states", "a true, s true, z false"), ("claimed z", "best p"), ("claimed a", "least t 1,-1"),
                                ("claimed s", "enough t 2")):
            self.assertEqual(desk.do(command), answer)
        for command in ("state", "claimed", "forget"):
            self.assertStays(desk, UnknownLabel, {"value": "x"}, desk.do, command + " x")
            self.assertStays(desk, UnknownLabel, {"value": "t"}, desk.do, command + " t")


class TestErrors(DeskCase):
    def test_no_commands(self):
        desk = begun()
        for value in NO_LISTS + ["", "table t 1,1 0", "undo 1", "nothing", ["undo"], "states "]:
            self.assertStays(desk, InvalidCommand, {"value": value}, desk.do, value)
            self.assertStays(desk, InvalidCommand, {"value": value}, desk, value)

    def test_names(self):
        desk = begun("claim b best p")
        news = ("table {} 1,2 3,4", "kind {} 1 1 0:0 0", "street {} t 4 k,n", "plan {} s 0,3*1;3,0*1|2,1*1", "copy {} t", "arrange {} t 10", "widen {} t", "bank {} s")
        for command in news:
            for name in ("t", "p", "k"):
                self.assertStays(desk, NameTaken, {"name": name}, desk.do, command.format(name))
            self.assertEqual(desk.copy().do(command.format("b")), "-")
        self.assertStays(desk, LabelTaken, {"label": "b"}, desk.do, "claim b least t 1,-1")
        self.assertStays(desk, LabelTaken, {"label": "b"}, desk.do, "claim b least x 1,-1")
        self.assertStays(desk, NameTaken, {"name": "t"}, desk.do, "copy t x")
        for command in ("street u {} 4 k", "plan u {} -", "copy u {}", "arrange u {} 0", "widen u {}", "bank u {}", "stock {} 1", "houses {} 1", "exchange {} 0:1:1:1", "drop {}",
                        "claim c least {} 1", "claim c best {}", "claim c short {}", "shown {}", "pull {} 1", "changes {}", "pulls {}", "reach {}", "rooms {} 0", "worth {}", "shortage {}",
                        "many {}", "price {}", "kept {}", "saving {} 0:1:1:1", "apart {} p", "apart p {}"):
            self.assertStays(desk, UnknownName, {"value": "x"}, desk.do, command.format("x"))
        self.assertStays(desk, UnknownName, {"value": "x"}, desk.do, "street u x 4 y,z")
        self.assertStays(desk, UnknownName, {"value": "y"}, desk.do, "street u t 4 k,y,z")
        self.assertStays(desk, UnknownName, {"value": "y"}, desk.do, "street u k 4 t,y")
        self.assertStays(desk, UnknownName, {"value": "x"}, desk.do, "apart t x")
        self.assertStays(desk, UnknownName, {"value": "x"}, desk.do, "apart x y")

    def test_wrong_things(self):
        desk = begun()
        wanted = {
            "t": ("street u {} 4 k,n", "arrange u {} 10", "widen u {}", "pull {} 1,1", "changes {}", "pulls {}", "reach {}", "claim c least {} 1,-1", "claim c parted {} 1,-1",
                  "claim c enough {} 1", "claim c toofew {} 1"),
            "k": ("street u t 4 {}", "street u t 4 k,{},n", "houses {} 5"),
            "s": ("plan u {} 0,3*1;3,0*1|2,1*1", "bank u {}", "stock {} 1", "rooms {} 0", "worth {}", "shortage {}", "many {}", "claim c plan {}", "claim c short {}",
                  "claim c atmost {} 1", "claim c above {} 1"),
            "p": ("exchange {} 0:3,0:-1,1:1 1:2,1:1,-1:1", "price {}", "kept {}", "saving {} 0:3,0:-1,1:1 1:2,1:1,-1:1", "apart {} p", "apart p {}", "claim c best {}", "claim c better {}"),
        }
        for name, commands in wanted.items():
            for command in commands:
                desk.copy().do(command.format(name))
                for other in ("t", "k", "s", "p"):
                    if other != name:
                        self.assertStays(desk, WrongThing, {"name": other}, desk.do, command.format(other))
        self.assertStays(desk, WrongThing, {"name": "k"}, desk.do, "street u k 4 t,s")
        self.assertStays(desk, WrongThing, {"name": "s"}, desk.do, "street u t 4 k,s,t")
        self.assertStays(desk, WrongThing, {"name": "t"}, desk.do, "apart t k")

    def test_what_makes_it_fails(self):
        desk = begun("kind a 1 1 0:1 0", "table one 1 1", "table five 1,1,1,1,1 0,0,0,0,0")
        for command, error, told in (
            ("table u 1,5 0,1", InvalidRow, {"value": (1, 5)}), ("table u 1,1 0,-5", InvalidRow, {"value": (0, -5)}),
            ("street u t 4 k,a", InvalidKinds, {"position": 1}), ("street u one 4 k,a", InvalidKinds, {"position": 0}),
            ("plan u s -|-", InvalidPlan, {"value": [[], []]}), ("plan u s 3,0*2|2,1*1", InvalidPlan, {"value": [[((3, 0), 2)], [((2, 1), 1)]]}),
            ("plan u s 3,0*1;0,3*1|3,0*1", InvalidPlan, {"value": [[((3, 0), 1), ((0, 3), 1)], [((3, 0), 1)]]}), ("plan u s 3*1", InvalidPlan, {"value": [[((3,), 1)]]}),
            ("arrange u t 0", InvalidOrder, {"value": [0]}), ("arrange u t 120", InvalidOrder, {"value": [1, 2, 0]}),
            ("widen u five", TooMany, {"what": "columns", "limit": 6}),
            ("exchange p 0:3,0:-1,1:1", InvalidExchange, {"value": [(0, (3, 0), (-1, 1), 1)]}), ("exchange p 9:3,0:1:0", InvalidExchange, {"value": [(9, (3, 0), (1,), 0)]}),
            ("table u 1,1 0,1,2", InvalidCommand, {"value": "table u 1,1 0,1,2"}),
        ):
            self.assertStays(desk, error, told, desk.do, command)
        desk.do_all("street b t 0 k,k,k,k,k")
        self.assertStays(desk, TooMany, {"what": "kinds", "limit": 5}, desk.do, "bank u b")

    def test_too_many_lots(self):
        desk = begun("table lots 1,4,0,2 4,3,-4,3", "kind four 1 0 0:1,0:1,0:1,0:1 0,0,0,0", "table changes 2,3,3,3,4,4 0,0,0,0,0,1")
        for command in ("reach lots", "street u lots 0 four"):
            self.assertStays(desk, TooMany, {"what": "lots", "limit": 300}, desk.do, command)
        for command in ("changes changes", "pulls changes", "reach changes"):
            self.assertStays(desk, TooMany, {"what": "changes", "limit": 200}, desk.do, command)

    def test_no_claims(self):
        desk = begun("street b t 0 k,k,k,k,k", "table lots 1,4,0,2 4,3,-4,3")
        for command, value in (
            ("least t 1,1", ("least", TABLE, (1, 1))), ("least t 0,0", ("least", TABLE, (0, 0))), ("parted t 1", ("parted", TABLE, (1,))),
            ("plan b", ("plan", Street(TABLE, [KIND] * 5, 0))), ("short b", ("short", Street(TABLE, [KIND] * 5, 0))), ("atmost b 3", ("atmost", Street(TABLE, [KIND] * 5, 0), 3)),
            ("enough lots 4", ("enough", Table((1, 4, 0, 2), (4, 3, -4, 3)), 4)), ("toofew lots 4", ("toofew", Table((1, 4, 0, 2), (4, 3, -4, 3)), 4)),
        ):
            self.assertStays(desk, InvalidClaim, {"value": value}, desk.do, "claim c " + command)

    def test_limits(self):
        desk = begun("copy a t", "copy b t", "copy c t", "copy d t")
        self.assertStays(desk, TooMany, {"what": "names", "limit": 10}, begun("copy a t", "copy b t", "copy c t", "copy d t", "copy e t").do, "copy f t")
        self.assertEqual(desk.do("copy e t"), "-")
        self.assertEqual(len(desk.names), 10)
        for command in ("copy f t", "table f 1 1", "kind f 1 1 0:1 0", "street f t 0 k", "plan f s 0,3*1;3,0*1|2,1*1", "arrange f t 10", "widen f t", "bank f s"):
            self.assertStays(desk, TooMany, {"what": "names", "limit": 10}, desk.do, command)
        self.assertStays(desk, InvalidRow, {"value": (9,)}, desk.do, "table f 9 1")
        self.assertStays(desk, NameTaken, {"name": "a"}, desk.do, "copy a t")
        self.assertEqual(desk.do_all("stock s 5", "houses k 3", MOVE, "claim f best p"), ["-", "-", "-", "f true"])
        for at in range(11):
            desk.do(f"claim f{at} enough t {at}")
        self.assertEqual(len(desk.labels), 12)
        self.assertStays(desk, TooMany, {"what": "labels", "limit": 12}, desk.do, "claim g best p")
        self.assertStays(desk, InvalidClaim, {"value": ("least", TABLE, (1, 1))}, desk.do, "claim g least t 1,1")
        desk.do_all("forget f", "claim g best p", "drop e", "copy f t")
        self.assertEqual((len(desk.labels), len(desk.names)), (12, 10))

    def test_three_hundred_deeds(self):
        desk = begun()
        for at in range(295):
            desk.do(f"stock s {at}")
        self.assertEqual(len(desk), 300)
        for command in ("stock s 1", "drop t", "claim c best p", "copy u t"):
            self.assertStays(desk, TooMany, {"what": "deeds", "limit": 300}, desk.do, command)
        self.assertStays(desk, UnknownName, {"value": "x"}, desk.do, "drop x")
        self.assertStays(desk, InvalidPlan, {"value": [[]]}, desk.do, "plan u s -")
        self.assertEqual([desk.do("undo"), desk.do("stock s 7"), len(desk)], ["stock s 294", "-", 300])
        self.assertEqual(len(Desk.again(desk.lines())), 300)
        self.assertFails(CommandFailed, {"position": 300}, Desk.again, desk.lines() + ["drop t"])
        while len(desk):
            desk.do("undo")
        self.assertEqual(desk.names, [])
        for _ in range(300):
            desk.do("redo")
        self.assertStays(desk, NothingToRedo, {}, desk.do, "redo")
        self.assertEqual(desk["s"].stock, 7)
        # Names and labels come ahead of deeds.
        full = Desk.again(desk.lines()[:293] + [f"copy {name} t" for name in "abcde"] + ["claim c best p", "claim d best p"])
        self.assertEqual((len(full), len(full.names)), (300, 10))
        self.assertStays(full, TooMany, {"what": "names", "limit": 10}, full.do, "copy x t")
        self.assertStays(full, TooMany, {"what": "deeds", "limit": 300}, full.do, "claim x best p")


class TestUndo(DeskCase):
    def test_to_the_beginning_and_to_the_end(self):
        lines = BEGIN + ("claim b best p", MOVE, "claim c enough t 1", "houses k 3", "forget c", "drop t", "copy t k", "stock s 9", "bank bank s", "drop p")
        desk, boards = Desk(), []
        for line in lines:
            boards.append(shown(desk)[:2] + shown(desk)[4:])
            desk.do(line)
        end = shown(desk)
        for at in range(len(lines) - 1, -1, -1):
            self.assertEqual(desk.do("undo"), lines[at])
            self.assertEqual(shown(desk)[:2] + shown(desk)[4:], boards[at])
            self.assertEqual((len(desk), desk.lines()), (at, list(lines[:at])))
        self.assertStays(desk, NothingToUndo, {}, desk.do, "undo")
        for line in lines:
            self.assertEqual(desk.do("redo"), line)
        self.assertEqual(shown(desk), end)
        self.assertStays(desk, NothingToRedo, {}, desk.do, "redo")

    def test_a_deed_between(self):
        desk = begun("stock s 5", "stock s 6")
        desk.do_all("undo", "undo")
        self.assertEqual(redone(desk), ["stock s 5", "stock s 6"])
        self.assertEqual(desk.do("redo"), "stock s 5")
        # What changes nothing, and what fails, is no deed between.
        desk.do_all("states", "names", "worth s")
        self.assertStays(desk, UnknownName, {"value": "x"}, desk.do, "drop x")
        self.assertEqual(redone(desk), ["stock s 6"])
        desk.do("stock s 7")
        self.assertStays(desk, NothingToRedo, {}, desk.do, "redo")
        self.assertEqual(desk.lines(), list(BEGIN) + ["stock s 5", "stock s 7"])
        desk.do_all("undo", "undo", "undo")
        self.assertEqual(redone(desk), [BEGIN[4], "stock s 5", "stock s 7"])

    def test_lines_are_new(self):
        desk = begun()
        self.assertGives(list(BEGIN), desk.lines)


class TestStates(DeskCase):
    def test_answers_of_deeds(self):
        desk = begun()
        for command, answer in (
            ("claim z best p", "z false"), ("claim a better p", "a true"), ("claim m least t 1,-1", "m true"), ("claim e atmost s 2", "e true"), ("claim o above s 2", "o false"),
            (MOVE, "a false, z true"), ("exchange p 0:2,1:1,-1:1 1:3,0:-1,1:1", "a true, z false"), ("stock s 5", "-"), ("stock s 9", "e false, o true"), ("stock s 10", "-"),
            ("stock s 4", "e true, o false"), ("drop t", "m gone"), ("table t 1,-1 0,1", "-"), ("forget m", "-"), ("drop t", "-"), ("drop s", "e gone, o gone"),
            ("drop p", "a gone, z gone"), ("copy s k", "-"), ("forget z", "-"), ("houses k 3", "-"),
        ):
            self.assertEqual(desk.do(command), answer, command)
        self.assertEqual(desk.do("states"), "a gone, e gone, o gone")

    def test_gone_by_each_way(self):
        desk = begun("claim a best p", "claim b enough t 2", "claim c least t 1,-1", "claim d plan s")
        for commands, answer in (
            # Nothing is kept; something of another kind is; it is no claim of what is kept; its truth is too many to tell.
            (("drop t",), ["b gone, c gone"]), (("drop t", "copy t k"), ["b gone, c gone", "-"]), (("drop p", "copy p s"), ["a gone", "-"]), (("drop s", "copy s p"), ["d gone", "-"]),
            (("drop t", "table t 1,2 0,1"), ["b gone, c gone", "b true"]), (("drop t", "table t 1,1,1 0,1,1"), ["b gone, c gone", "b true"]),
            (("drop s", "street s t 4 k,k,k,k,k"), ["d gone", "-"]), (("drop s", "street s t 4 k,k,k,k"), ["d gone", "d true"]),
            (("drop t", "table t 1,4,0,2 4,3,-4,3"), ["b gone, c gone", "-"]), (("drop t", "table t 2,3,3,3,4,4 0,0,0,0,0,1"), ["b gone, c gone", "-"]),
            (("drop t", "table t 1,-1 0,1"), ["b gone, c gone", "b true"]), (("drop t", "copy t s"), ["b gone, c gone", "-"]),
        ):
            other = desk.copy()
            self.assertEqual(other.do_all(*commands), answer)
            for label in other.labels:
                if other.do("state " + label) == "gone":
                    self.assertIsNone(other.claim_of(label))
            other.do_all(*["undo"] * len(commands))
            self.assertEqual(other.do("states"), desk.do("states"))
        wide = begun("claim d plan s", "table lots -4,-4,-3 -1,-3,0", "kind z 1 0 0:0,0:0,0:0 0,0,0", "drop s")
        self.assertEqual(wide.do_all("street s lots 0 z", "drop s", "table sums 4,1 -2,2", "kind y 1 0 0:0,0:0 0,0", "street s sums 0 y", "state d"), ["-"] * 5 + ["gone"])
        self.assertEqual(wide.do_all("drop s", "street s t 0 y"), ["-", "d true"])

    def test_claims_noted(self):
        desk = begun()
        for command, claim in (
            ("least t 1,-1", ("least", TABLE, (1, -1))), ("parted t -2,2", ("parted", TABLE, (-2, 2))), ("enough t 5", ("enough", TABLE, 5)), ("toofew t 0", ("toofew", TABLE, 0)),
            ("best p", ("best", STREET, PLAN)), ("better p", ("better", STREET, PLAN)), ("plan s", ("plan", STREET)), ("short s", ("short", STREET)),
            ("atmost s -3", ("atmost", STREET, -3)), ("above s 0", ("above", STREET, 0)),
        ):
            label = command.split(" ")[0]
            state = desk.do(f"claim {label} {command}")
            self.assertEqual(desk.do("state " + label), state.split(" ")[1])
            self.assertGives(claim, desk.claim_of, label)
            self.assertEqual(desk.do("claimed " + label), command)
        self.assertEqual(desk.do("states"), "above true, atmost false, best false, better true, enough true, least true, parted true, plan true, short false, toofew true")
        for value in NO_LISTS + ["x", "t", "p", [], ["best"], ("best",)]:
            self.assertInvalid(UnknownLabel, value, desk.claim_of, value)
            self.assertInvalid(UnknownLabel, value, desk.fits, value)
            self.assertInvalid(UnknownLabel, value, desk.attach, value, None)

    def test_claims_are_of_what_is_kept_now(self):
        desk = begun("claim b best p", MOVE)
        self.assertEqual(desk.claim_of("b"), ("best", STREET, BEHIND))
        desk.do("undo")
        self.assertEqual(desk.claim_of("b"), ("best", STREET, PLAN))
        desk.do_all("drop p", "plan p s 2,1*1;1,2*1|2,1*1")
        self.assertEqual(desk.claim_of("b"), ("best", STREET, [[((1, 2), 1), ((2, 1), 1)], [((2, 1), 1)]]))


class TestTogether(DeskCase):
    def test_do_all(self):
        desk = begun("claim b best p")
        for commands, position, error in (
            (("stock s 5", "drop x"), 1, UnknownName), (("undo",) * 7, 6, NothingToUndo), ((MOVE, "undo", "redo", "redo"), 3, NothingToRedo), (("drop p", None), 1, InvalidCommand),
            (("copy t k",), 0, NameTaken), (("claim b least t 1,-1",), 0, LabelTaken), (("names", "forget c"), 1, UnknownLabel), (("drop t", "reach k"), 1, WrongThing),
            (("stock s 9", "claim c least t 1,1"), 1, InvalidClaim), ((("drop", "t"),), 0, InvalidCommand),
        ):
            before, again = shown(desk), redone(desk)
            with self.assertRaises(CommandFailed) as caught:
                desk.do_all(*commands)
            self.assertEqual(caught.exception.position, position)
            self.assertIs(type(caught.exception.__cause__), error)
            self.assertEqual((shown(desk), redone(desk)), (before, again))
        self.assertGives([], desk.do_all)
        self.assertEqual(desk.do_all("undo", "redo", "states"), ["claim b best p", "claim b best p", "b false"])

    def test_attempt(self):
        desk = begun("claim b best p", "stock s 7", "undo")
        before, again = shown(desk), redone(desk)
        self.assertEqual(desk.attempt(MOVE, "price p", "drop t", "names", "undo", "stock s 3"), ["b true", "2", "-", "k n p s", "drop t", "-"])
        self.assertEqual((shown(desk), redone(desk)), (before, again))
        self.assertEqual(desk.attempt(), [])
        with self.assertRaises(CommandFailed) as caught:
            desk.attempt(MOVE, "reach x", "drop t")
        self.assertEqual(caught.exception.position, 1)
        self.assertEqual(caught.exception.__cause__.value, "x")
        self.assertEqual((shown(desk), redone(desk)), (before, again))

    def test_trial(self):
        desk = begun("claim b best p", "stock s 7", "undo")
        paper = paper_of(("better", STREET, PLAN))
        before, again = shown(desk), redone(desk)
        trial = Trial(desk)
        for _ in range(2):
            with trial as held:
                self.assertIs(held, desk)
                held.do_all(MOVE, "drop t", "forget b")
                self.assertEqual(desk.labels, [])
                held.do_all("undo", "undo", "undo")
                held.attach("b", paper)
                self.assertIs(desk.fits("b"), True)
            self.assertEqual((shown(desk), redone(desk)), (before, again))
            self.assertIs(desk.fits("b"), False)
        for error in (KeyError, UnknownName, ZeroDivisionError):
            with self.assertRaises(error):
                with Trial(desk):
                    desk.do("drop p")
                    if error is UnknownName:
                        desk.do("drop p")
                    raise error("out")
            self.assertEqual((shown(desk), redone(desk)), (before, again))

    def test_trials_of_several_things(self):
        desk = begun("claim b best p")
        desk.attach("b", paper_of(("better", STREET, PLAN)))
        with Trial(desk):
            desk.do(MOVE)
            with Trial(desk):
                desk.do("undo")
                self.assertEqual(desk.do("state b"), "false")
            self.assertEqual(desk.do("state b"), "true")
            desk.attach("b", paper_of(("best", STREET, BEHIND)))
        self.assertEqual((desk.do("state b"), desk.fits("b")), ("false", True))

    def test_tried(self):
        desk = begun("claim b best p")
        before = shown(desk)
        self.assertEqual(tried(desk, lambda held: held.do_all(MOVE, "states", "drop s")), ["b true", "b true", "-"])
        self.assertEqual(tried(desk, lambda held: held is desk), True)
        self.assertIsNone(tried(desk, lambda held: None))
        self.assertEqual(shown(desk), before)

        def failing(held):
            held.do("drop s")
            raise ValueError("out")
        self.assertRaises(ValueError, tried, desk, failing)
        self.assertEqual(shown(desk), before)

    def test_copy(self):
        desk = begun("claim b best p", "stock s 7", "undo")
        desk.attach("b", paper_of(("better", STREET, PLAN)))
        other = desk.copy()
        self.assertIs(type(other), Desk)
        self.assertEqual((shown(other), redone(other)), (shown(desk), redone(desk)))
        before = shown(desk)
        other.do_all(MOVE, "drop t", "forget b")
        self.assertEqual(shown(desk), before)
        self.assertEqual(desk.do("redo"), "stock s 7")
        self.assertEqual(other.names, ["k", "n", "p", "s"])
        self.assertIs(desk.fits("b"), True)
        third = desk.copy()
        desk.do_all("undo", "undo", "undo")
        self.assertEqual(third.do("states"), "b false")

    def test_again(self):
        desk = begun("claim b best p", MOVE, "stock s 7", "undo")
        for lines in (desk.lines(), tuple(desk.lines())):
            other = Desk.again(lines)
            self.assertIs(type(other), Desk)
            self.assertEqual(shown(other), shown(desk))
            self.assertEqual(redone(other), [])
        self.assertEqual(shown(Desk.again([])), shown(Desk()))
        for value in NO_LISTS + ["drop t"]:
            self.assertFails(InvalidLines, {"position": None}, Desk.again, value)
        for lines, position in ((["undo"], 0), (list(BEGIN) + ["states"], 5), ([BEGIN[0], "drop x", "redo"], 2), ([BEGIN[0], None], 1), ([list(BEGIN)], 0), (["drop x", "names", "undo"], 1)):
            self.assertFails(InvalidLines, {"position": position}, Desk.again, lines)
        for lines, position in ((["drop x"], 0), (list(BEGIN) + ["drop t", "drop t"], 6), (list(BEGIN[1:]), 2)):
            self.assertFails(CommandFailed, {"position": position}, Desk.again, lines)
        with self.assertRaises(CommandFailed) as caught:
            Desk.again(["drop x"])
        self.assertIs(type(caught.exception.__cause__), UnknownName)


class TestPapers(DeskCase):
    def test_of_the_claim_and_of_its_contrary(self):
        for command, claim in (("best p", ("best", STREET, PLAN)), ("better p", ("better", STREET, PLAN)), ("least t 1,-1", ("least", TABLE, (1, -1))),
                               ("parted t 1,-1", ("parted", TABLE, (1, -1))), ("enough t 1", ("enough", TABLE, 1)), ("toofew t 1", ("toofew", TABLE, 1)),
                               ("plan s", ("plan", STREET)), ("short s", ("short", STREET)), ("atmost s 2", ("atmost", STREET, 2)), ("above s 2", ("above", STREET, 2))):
            desk = begun("claim b " + command)
            self.assertIs(desk.fits("b"), False)
            paper = paper_of(claim) or paper_of(contrary(claim))
            self.assertIsNone(desk.attach("b", paper))
            self.assertIs(desk.fits("b"), True)
            for wrong in NO_LISTS + [[], [[]], paper_of(("least", TABLE, (-1, 1))), ("no house", 0)]:
                self.assertStays(desk, InvalidPaper, {"value": wrong}, desk.attach, "b", wrong)

    def test_as_things_are_now(self):
        desk = begun("claim b best p")
        better = [(0, (3, 0), (-1, 1), 1), (1, (2, 1), (1, -1), 1)]
        desk.attach("b", better)
        length = len(desk)
        self.assertIs(desk.fits("b"), True)
        desk.do(MOVE)
        self.assertIs(desk.fits("b"), False)
        self.assertStays(desk, InvalidPaper, {"value": better}, desk.attach, "b", better)
        desk.do("undo")
        self.assertEqual((desk.fits("b"), len(desk)), (True, length))
        desk.do("drop p")
        self.assertIs(desk.fits("b"), False)
        self.assertStays(desk, InvalidPaper, {"value": better}, desk.attach, "b", better)
        desk.do("plan p s 3,0*1;0,3*1|2,1*1")
        self.assertIs(desk.fits("b"), True)
        desk.do_all("drop p", "plan p s 1,2*1;2,1*1|2,1*1")
        self.assertIs(desk.fits("b"), False)

    def test_kept_for_the_claim_or_for_its_contrary(self):
        # The list of all least lots is a paper of "best" alone: so it does not fit when the plan is not best any more.
        desk = begun("claim b best p", MOVE)
        desk.attach("b", [[(-1, 1), (1, 1)]])
        self.assertIs(desk.fits("b"), True)
        desk.do("undo")
        self.assertIs(desk.fits("b"), False)
        # A plan of this price is a paper of one side; that a paper is one of the other side then does not help.
        desk = begun("claim a atmost s 5")
        desk.attach("a", PLAN)
        self.assertIs(desk.fits("a"), True)
        desk.do("stock s 5")
        self.assertIs(desk.fits("a"), False)
        desk.do("stock s 4")
        self.assertIs(desk.fits("a"), True)

    def test_no_deed(self):
        desk = begun("claim b best p", "stock s 7", "undo")
        before = shown(desk)[:8]
        desk.attach("b", paper_of(("better", STREET, PLAN)))
        self.assertEqual((shown(desk)[:8], redone(desk)), (before, ["stock s 7"]))

    def test_forgotten_and_noted_again(self):
        desk = begun("claim b best p")
        desk.attach("b", paper_of(("better", STREET, PLAN)))
        desk.do("forget b")
        self.assertInvalid(UnknownLabel, "b", desk.fits, "b")
        self.assertInvalid(UnknownLabel, "b", desk.attach, "b", [])
        desk.do("claim b best p")
        self.assertIs(desk.fits("b"), True)
        desk.do_all("forget b", "claim b better p")
        self.assertIs(desk.fits("b"), False)
        desk.do_all("forget b", "claim b least t 1,-1")
        self.assertIs(desk.fits("b"), False)
        desk.do_all("undo", "undo", "undo", "undo")
        self.assertEqual((desk.do("claimed b"), desk.fits("b")), ("best p", True))
        desk.do_all("undo", "undo", "undo")
        self.assertEqual(desk.labels, [])
        desk.do("claim b best p")
        self.assertIs(desk.fits("b"), True)

    def test_in_the_place_of_another_one(self):
        desk = begun("claim b enough t 2", "claim c best p")
        desk.attach("b", [[(-1, 1), (1, 1)]])
        better = paper_of(("better", STREET, PLAN))
        desk.attach("c", better)
        desk.do(MOVE)
        desk.attach("c", [[(-1, 1), (1, 1)]])
        self.assertEqual((desk.fits("b"), desk.fits("c")), (True, True))
        desk.do("undo")
        self.assertEqual((desk.fits("b"), desk.fits("c")), (True, False))

    def test_copied(self):
        desk = begun("claim b best p")
        paper = paper_of(("better", STREET, PLAN))
        given = [tuple(entry) for entry in paper]
        desk.attach("b", given)
        given.clear()
        self.assertIs(desk.fits("b"), True)
        desk.attach("b", tuple([(kind, list(house), list(change), many) for kind, house, change, many in paper]))
        self.assertIs(desk.fits("b"), True)

    def test_too_many_is_no_paper(self):
        desk = begun("claim b toofew t 1")
        wide = [(2000, -2000), (-2000, 2000)]
        self.assertStays(desk, InvalidPaper, {"value": wide}, desk.attach, "b", wide)
        desk.attach("b", [(1, -1), (-1, 1)])
        desk.do_all("drop t", "table t 1,4,0,2 4,3,-4,3")
        self.assertEqual((desk.do("state b"), desk.fits("b")), ("gone", False))
        self.assertStays(desk, InvalidPaper, {"value": []}, desk.attach, "b", [])


if __name__ == "__main__":
    unittest.main()
