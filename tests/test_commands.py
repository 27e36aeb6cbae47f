"""Names and commands of a desk, by their signs alone [95], [97], [98]."""

import unittest

from likestreets import commands as module
from likestreets.commands import is_command, is_deed, is_name
from helpers import NO_LISTS, Case

NINES = "9" * 30
# Of each word commands, then strings that are none.
COMMANDS = {
    "table": (["table t 1,1 0,1", "table t 1 0", f"table t -{NINES} {NINES}", "table abcdefgh 1,2,3,4,5,6 0,0,0,0,0,0", "table a1 9 -9"],
              ["table t 1,1 0", "table t 1 0,1", "table t 1,1", "table 1,1 0,1", "table t 1,1 0,1 1", "table t 1,2,3,4,5,6,7 1,2,3,4,5,6,7", "table t 1, 0,1",
               "table t ,1 0,1", "table t - -", "table t 1;1 0;1", "table t a,b 0,1", "table t 1,1  0,1", "table t 01 1", "table t 1 -0"]),
    "kind": (["kind k 3 5 0:9,0:4 1,0/5+2", "kind k 0 -5 0:0 0", f"kind k {NINES} {NINES} -{NINES}:{NINES} -{NINES}/{NINES}+{NINES}", "kind k 1 0 -5:-4 0/-1+1/0+1/1+1/2+9",
              "kind k 1 0 1:1,1:1,1:1,1:1,1:1,1:1 0,0,0,0,0,0"],
             ["kind k 3 5 9:0 1", "kind k 3 5 0:9", "kind k 3 5 0:9 1 1", "kind k 3 0:9 1", "kind k -3 5 0:9 1", "kind k 3 5 0:9,0:4 1", "kind k 3 5 0:9 1,0", "kind k 3 5 0 1",
              "kind k 3 5 0:9:9 1", "kind k 3 5 0:9 1/5", "kind k 3 5 0:9 1/5+0", "kind k 3 5 0:9 1/5+-1", "kind k 3 5 0:9 1/5+1/5+1", "kind k 3 5 0:9 1/5+1/4+1",
              "kind k 3 5 0:9 1/1+1/2+1/3+1/4+1/5+1", "kind k 3 5 0:9 1/5+1+1", "kind k 3 5 0:9 /5+1", "kind k 3 5 0:9 1/", "kind k 3 5 0:9 1/+1", "kind k 3 5 0:9 1/5+",
              "kind k 03 5 0:9 1", "kind k 3 -0 0:9 1", "kind k 3 5 -0:9 1", "kind k 3 5 0:09 1", "kind k 3 5 0:9 01", "kind k 3 5 : 1", "kind k 3 5 0: 1", "kind k - 5 0:9 1",
              "kind k 3 5 0:1,0:1,0:1,0:1,0:1,0:1,0:1 0,0,0,0,0,0,0", "kind 3 5 0:9 1", "kind k 3 5 0:9 1/5+01", "kind k 3 5 0:9 -"]),
    "street": (["street s t 4 k", "street s t -4 k,l,m,n,o", "street s t 0 k,k,k", f"street s t {NINES} k"],
               ["street s t 4", "street s t k", "street s 4 k", "street s t 4 k,l,m,n,o,p", "street s t 4 k,", "street s t 4 ,k", "street s t 4 k l", "street s t 4 -", "street s t 4 K",
                "street s t -0 k", "street s t 4 k,,l", "street s t 4 1k"]),
    "plan": (["plan p s 1,0*2;0,1*1|-", "plan p s -", "plan p s 1*1", "plan p s -|-|-|-|-|-|-", "plan p s -1*0", f"plan p s {NINES}*{NINES}", "plan p s 1,2,3,4,5,6*1;1*1|1,2*3",
              "plan p s 1*1;1*1"],
             ["plan p s", "plan p 1*1", "plan p s 1", "plan p s 1*", "plan p s *1", "plan p s 1*1*1", "plan p s 1*-1", "plan p s 1*1|", "plan p s |1*1", "plan p s 1*1;", "plan p s ;1*1",
              "plan p s 1*1 1*1", "plan p s 1*1;-", "plan p s --", "plan p s |", "plan p s ;", "plan p s 1,2,3,4,5,6,7*1", "plan p s 1*01", "plan p s 1, *1", "plan p s 1*1,2*1"]),
    "copy": (["copy u t"], ["copy u", "copy", "copy u t v", "copy u 1", "copy U t"]),
    "arrange": (["arrange u t 0", "arrange u t 201", "arrange u t 543210", "arrange u t 10"],
                ["arrange u t", "arrange u t 1", "arrange u t 2,0,1", "arrange u t 00", "arrange u t 0123456", "arrange u t 21", "arrange u t 011", "arrange u t -", "arrange u t 0 1",
                 "arrange u t 013", "arrange u t a", "arrange t 0"]),
    "widen": (["widen u t"], ["widen u", "widen u t 1", "widen u -", "widen"]),
    "bank": (["bank u s"], ["bank u", "bank u s 1", "bank", "bank u S"]),
    "stock": (["stock s 0", "stock s -5", f"stock s -{NINES}"], ["stock s", "stock s x", "stock s 5 5", "stock 5", "stock s -0", "stock s 05", "stock s +5", "stock s 1,1"]),
    "houses": (["houses k 0", f"houses k {NINES}"], ["houses k", "houses k -1", "houses k 00", "houses k 1 1", "houses 1", "houses k 1,1"]),
    "exchange": (["exchange p 0:1,0:-1,1:2", "exchange p 9:1:1:0", "exchange p 0:1:1:1 1:1:1:1 2:1:1:1 3:1:1:1 4:1:1:1 0:1:1:1", "exchange p 0:1:1,2:1", f"exchange p 0:1:1:{NINES}"],
                 ["exchange p", "exchange p ", "exchange 0:1:1:1", "exchange p 0:1:1", "exchange p 0:1:1:1:1", "exchange p 10:1:1:1", "exchange p -1:1:1:1", "exchange p 0:1:1:-1",
                  "exchange p 0:1:1:1 ", "exchange p 0:1:1:1  0:1:1:1", "exchange p 0:1:1:1 x", "exchange p 0:1:1:1,0:1:1:1", "exchange p 0:1,:1:1", "exchange p 0:1:-:1",
                  "exchange p 0:1:1:1 1:1:1:1 2:1:1:1 3:1:1:1 4:1:1:1 0:1:1:1 0:1:1:1", "exchange p -", "exchange p :1:1:1", "exchange p 00:1:1:1", "exchange p 0:1:1:01"]),
    "drop": (["drop t"], ["drop", "drop t u", "drop -", "drop 1", "drop "]),
    "claim": (["claim b least t 1,-1", "claim b parted t 1", "claim b enough t 3", "claim b toofew t 0", "claim b best p", "claim b better p", "claim b plan s", "claim b short s",
               "claim b atmost s -5", "claim b above s 5", f"claim b above s -{NINES}", "claim best best best", f"claim b enough t {NINES}"],
              ["claim", "claim b", "claim b least", "claim b least t", "claim b least 1,-1", "claim b least t 1,-1 1", "claim b enough t -1", "claim b enough t 1,1", "claim b enough t",
               "claim b best", "claim b best p 1", "claim b better p p", "claim b plan", "claim b plan s 1", "claim b short", "claim b atmost s", "claim b above s 1,1", "claim b atmost s -0",
               "claim b worst p", "claim b Best p", "claim best p", "claim b  best p", "claim B best p", "claim b parted t 1;1", "claim b toofew t 01", "claim b states", "claim b best -"]),
    "forget": (["forget b"], ["forget", "forget b c", "forget 1", "forget "]),
    "undo": (["undo"], ["undo 1", "undo ", "undo t", "undos"]),
    "redo": (["redo"], ["redo 1", "redo ", " redo"]),
    "state": (["state b"], ["state", "state b c", "state B"]),
    "states": (["states"], ["states b", "states "]),
    "claimed": (["claimed b"], ["claimed", "claimed b c"]),
    "names": (["names"], ["names t", "names ", "name"]),
    "shown": (["shown t"], ["shown", "shown t u", "shown -"]),
    "pull": (["pull t 1,1", "pull t 0"], ["pull t", "pull t 1 1", "pull t 1,", "pull 1,1", "pull t -"]),
    "changes": (["changes t"], ["changes", "changes t 1"]),
    "pulls": (["pulls t"], ["pulls", "pulls t t"]),
    "reach": (["reach t"], ["reach", "reach t 2", "reach 2"]),
    "rooms": (["rooms s 0", "rooms s 10", f"rooms s {NINES}"], ["rooms s", "rooms s -1", "rooms s 00", "rooms 0"]),
    "worth": (["worth s"], ["worth", "worth s 1"]),
    "shortage": (["shortage s"], ["shortage", "shortage s 1"]),
    "many": (["many s"], ["many", "many s 1"]),
    "price": (["price p"], ["price", "price p 1"]),
    "kept": (["kept p"], ["kept", "kept p 1"]),
    "saving": (["saving p 0:1,0:-1,1:2", "saving p 0:1:1:1 1:1:1:1"], ["saving p", "saving 0:1:1:1", "saving p 0:1:1", "saving p 0:1:1:1 " + " ".join(["0:1:1:1"] * 6)]),
    "apart": (["apart p q", "apart p p"], ["apart p", "apart", "apart p q r", "apart p 1"]),
}
DEEDS = ["table", "kind", "street", "plan", "copy", "arrange", "widen", "bank", "stock", "houses", "exchange", "drop", "claim", "forget"]


class TestCommands(Case):
    def test_interface(self):
        self.assertDefinedIn(module, "is_name", "is_command", "is_deed")
        for function in (is_name, is_command, is_deed):
            self.assertParameters(function, "value")
        self.assertEqual([is_name(value="a"), is_command(value="undo"), is_deed(value="undo")], [True, True, False])

    def test_told(self):
        found = [is_command(command) for command in ("table t 1,1 0,1", "table t 1,1 0", "kind k 3 5 0:9,0:4 1,0/5+2", "kind k 3 5 9:0 1")]
        self.assertEqual(found, [True, False, True, False])
        found = [is_deed(command) for command in ("exchange p 0:1,0:-1,1:2", "reach t", "plan p s 1,0*2;0,1*1|-")]
        self.assertEqual(found, [True, False, True])

    def test_names(self):
        for value in ("a", "z", "a0", "z9", "abcdefgh", "a1234567", "undo", "best", "zz"):
            self.assertYes(is_name, value)
        for value in NO_LISTS + ["", "A", "aB", "1", "1a", "abcdefghi", "a1234567b", "a b", " a", "a ", "a-b", "a_b", "a,b", "a.", "-", [], ["a"], ("a",), "a\n", "a:"]:
            self.assertNo(is_name, value)

    def test_each_word(self):
        self.assertEqual(len(COMMANDS), 33)
        for word, (right, wrong) in COMMANDS.items():
            for command in right:
                self.assertYes(is_command, command)
                self.assertIs(is_deed(command), word in DEEDS)
                self.assertNo(is_command, command + " x 1 x")
                self.assertNo(is_command, command + "\n")
                self.assertNo(is_command, " " + command)
                self.assertNo(is_command, command + " ")
                self.assertNo(is_command, command.upper())
                self.assertNo(is_command, command.replace(" ", "  ", 1) if " " in command else command + "  ")
            for command in wrong:
                self.assertNo(is_command, command)
                self.assertNo(is_deed, command)

    def test_names_in_commands(self):
        for command in ("copy {} t", "copy u {}", "drop {}", "state {}", "claim {} best p", "claim b best {}", "street s t 4 k,{}", "apart p {}"):
            for name in ("abcdefgh", "a", "a7"):
                self.assertYes(is_command, command.format(name))
            for name in ("abcdefghi", "A", "7a", "", "a-", "-"):
                self.assertNo(is_command, command.format(name))

    def test_numbers_of_thirty_figures_and_one_more(self):
        for command in ("stock s {}", "houses k {}", "pull t 1,{}", "table t {} 1", "kind k {} 0 0:0 0", "kind k 0 {} 0:0 0", "kind k 0 0 0:{} 0", "kind k 0 0 0:0 {}",
                        "kind k 0 0 0:0 0/{}+1", "kind k 0 0 0:0 0/0+{}", "plan p s {}*1", "plan p s 1*{}", "exchange p 0:{}:1:1", "exchange p 0:1:{}:1", "exchange p 0:1:1:{}",
                        "claim b enough t {}", "claim b atmost s {}", "rooms s {}", "street s t {} k", "claim b least t {},0"):
            for number, right in ((NINES, True), ("1" + "0" * 29, True), ("1" + "0" * 30, False), (NINES + "9", False), ("7", True), ("07", False), ("00", False), ("", False)):
                self.assertIs(is_command(command.format(number)), right, (command, number))
        for command in ("stock s {}", "pull t 1,{}", "kind k 0 {} 0:0 0", "kind k 0 0 {}:0 0", "kind k 0 0 0:0 {}", "kind k 0 0 0:0 0/{}+1", "claim b above s {}"):
            for number, right in (("-" + NINES, True), ("-1" + "0" * 30, False), ("-0", False), ("-07", False), ("--7", False), ("-", False), ("0", True)):
                self.assertIs(is_command(command.format(number)), right, (command, number))

    def test_any_value(self):
        for value in NO_LISTS + [["undo"], ("undo",), b"undo", "", " ", "x", "Undo", "\n", "undo\nundo", "keep t", "tables"]:
            self.assertNo(is_command, value)
            self.assertNo(is_deed, value)


if __name__ == "__main__":
    unittest.main()
