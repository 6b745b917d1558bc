"""Points 121 to 124: a desk that is told lines."""

import unittest
from kernelpapers.desk import Desk
from kernelpapers.errors import (Doubled, Leant, NoBack, NoDeed, NoFit, NoGround, NoHole, NoLine, NoneGoes, NoneLeft, NoPaper, NoSign,
                                 NotOnShelf, NotThere, Open, PaperError, Stale, Unsound)
from kernelpapers.grounds import Ground
from kernelpapers.kernel import settles
from kernelpapers.shelf import Shelf
from kernelpapers.texts import read, show, show_ground
from kernelpapers.work import Work
from goods import PLUS, number
from samples import A, K, LIST, NAT, NATS, NO_TERMS, NOTHINGS, SUCC, ZERO, Stranger, app, fun, refused, refused_as
from test_shelf import ENDS, ROWS_OF_THINGS, TURNED, development

NAT_LINE = "tell thing nat 0 | maker | maker | arg nat"
LIST_LINE = "tell thing list 0 | bound *0 | maker | maker | arg x0 | arg list x0"
PLUS_LINE = "mean plus : " + show(PLUS[2]) + " = " + show(PLUS[3])
BEGIN = [NAT_LINE, PLUS_LINE, "mean one : nat = nat#1 nat#0"]
ENDS_LINES = ["goal ends : " + ENDS, "do 0 bring", "do 1 split 0", "do 2 give self nat nat#0", "do 3 put " + TURNED,
              "do 4 give self nat (nat#1 x1)", "close"]
ALL_LINES = [*BEGIN, *ENDS_LINES, "settle ofone : same nat (@plus @one nat#0) @one = @ends @one", LIST_LINE,
             "settle both : same nat @one (nat#1 nat#0) = self nat @one"]


def told(*lines):
    """A desk that was told the lines."""
    desk = Desk()
    for line in lines:
        desk.say(line)
    return desk


def seen(desk):
    """All that a desk shows of itself."""
    work = desk.work()
    shelf = desk.shelf()
    return (shelf, shelf.stale(), work if work is None else (work.holes(), work.filled(), [work.goal(hole) for hole in work.holes()],
                                                             work.ground().rows()))


class Desks(unittest.TestCase):
    def answers(self, desk, *pairs):
        for line, answer in pairs:
            self.assertEqual(desk.say(line), answer, line)

    def stays(self, desk, family, error, fields, line):
        """The line is refused so, and changes nothing."""
        ahead = seen(desk)
        refused_as(self, family, error, fields, desk.say, line)
        self.assertEqual(seen(desk), ahead)

    def no_line(self, desk, *lines):
        for line in lines:
            ahead = seen(desk)
            refused(self, NoLine, line, desk.say, line)
            self.assertEqual(seen(desk), ahead)

    def no_sign(self, desk, number_of_word, *lines):
        for line in lines:
            self.stays(desk, PaperError, NoSign, {"at": number_of_word}, line)


class Developments(Desks):
    def test_a_whole_one(self):
        desk = Desk()
        self.answers(
            desk, ("rows", "none"), ("stale", "none"), ("good", "yes"), (NAT_LINE, "1"), (PLUS_LINE, "2"), (BEGIN[2], "3"), ("rows", "nat plus one"),
            ("goal ends : " + ENDS, "goal 0"), ("goals", "0 : " + ENDS), ("do 0 bring", "1"), ("goals", "1 : same nat (@plus x0 nat#0) x0"),
            ("do 1 split 0", "2 3"),
            ("goals", "2 : same nat nat#0 nat#0 | 3 : same nat (nat#1 (nat!0 (fun x3 : nat . nat) nat#0 (fun x3 : nat . fun x4 : nat . nat#1 x4) x1)) "
             "(nat#1 x1)"),
            ("do 2 give self nat nat#0", "none"), ("do 3 put " + TURNED, "4"), ("goals", "4 : same nat (nat#1 x1) (nat#1 x1)"),
            ("undo 3", "3"), ("do 3 put " + TURNED, "5"), ("do 5 give self nat (nat#1 x1)", "none"), ("goals", "none"), ("close", "4"),
            ("rows", "nat plus one ends"), ("saying ends", ENDS), ("leans ends", "nat plus"), ("above plus", "ends"), ("above ends", "none"),
            ("settle ofone : same nat (@plus @one nat#0) @one = @ends @one", "5"), ("paper ofone", "@ends @one"), ("leans ofone", "nat plus one ends"),
            ("what @ends @one", "same nat (nat#1 nat#0) (nat#1 nat#0)"), ("work @plus @one @one", "nat#1 (nat#1 nat#0)"), ("good", "yes"))
        self.assertIsNone(desk.work())
        self.assertTrue(settles(desk.shelf().ground_ahead("ends"), [], desk.shelf().paper("ends"), read(ENDS)))

    def test_the_same_as_by_the_shelf_itself(self):
        shelf = development()
        shelf.set_paper("ends", shelf.paper("ends"))
        self.assertEqual(told(*ALL_LINES).shelf(), shelf)

    def test_changes(self):
        desk = told(*ALL_LINES)
        self.answers(desk, ("change plus : nat -> nat -> nat = fun x0 : nat . fun x1 : nat . nat#0", "ends ofone"), ("stale", "ends ofone"),
                     ("rows", "nat plus one ends ofone list both"), ("good", "yes"), (PLUS_LINE.replace("mean", "change"), "ends ofone"),
                     ("renew ends", "ok"), ("stale", "ofone"), ("renew ofone", "ok"), ("stale", "none"),
                     ("change one : nat = nat#0", "ofone both"), ("change both : nat = nat#1 nat#0", "none"), ("stale", "ofone"),
                     ("out both", "6"), ("rename ofone last", "ok"), ("rows", "nat plus one ends last list"), ("stale", "last"),
                     ("rename list row", "ok"), ("saying row", "*0 -> *0"), ("out row", "5"), ("renew last", "ok"), ("good", "yes"),
                     ("rename one one", "ok"), ("paper last", "@ends @one"))

    def test_papers_shortened(self):
        desk = told(*ALL_LINES)
        self.answers(desk, ("short ends", "4"), ("short ends", "0"), ("settle again : " + ENDS + " = fun x0 : nat . @ends x0", "8"),
                     ("short again", "4"), ("paper again", "@ends"), ("leans again", "nat plus ends"), ("short ofone", "0"))

    def test_seek(self):
        desk = told(*BEGIN)
        self.answers(desk, ("goal a : all x0 : *0 . x0 -> (x0 -> nat) -> nat", "goal 0"))
        self.stays(desk, NoneLeft, NoneGoes, {"found": ("seek", 3)}, "do 0 seek 3")
        self.stays(desk, NoneLeft, NoneGoes, {"found": ("seek", 0)}, "do 0 seek 0")
        self.answers(desk, ("do 0 seek 4", "none"), ("close", "4"), ("good", "yes"))
        self.assertIsNone(desk.shelf().script("a"))

    def test_blanks_as_in_a_text(self):
        desk = Desk()
        self.answers(desk, ("  tell   thing nat 0 | maker | maker  |  arg (nat) ", "1"),
                     ("  rows ", "nat"), (" mean   one :(nat)= (nat#1 nat#0)", "2"), ("what   (nat#1)(nat#0)  ", "nat"),
                     ("goal  a : (nat)", "goal 0"), (" do 0  use nat#1 ; ? ", "1"), ("goals", "1 : nat"))


class Deeds(Desks):
    def test_each_deed(self):
        desk = told(*BEGIN)
        for goal, lines in [
                ("nat -> nat", [("do 0 bring", "1"), ("do 1 give x0", "none")]),
                ("nat", [("do 0 use nat#0", "none")]),
                ("nat", [("do 0 use @plus ; ? ; ?", "1 2"), ("do 1 use nat#1 ; nat#0", "none"), ("do 2 use @plus ; nat#1 nat#0 ; ?", "3"),
                         ("do 3 use @one", "none")]),
                ("nat", [("do 0 make 1 ; ?", "1"), ("do 1 make 1 ; nat#1 nat#0", "none")]), ("nat", [("do 0 make 0", "none")]),
                ("nat -> nat", [("do 0 bring", "1"), ("do 1 split 0", "2 3"), ("do 3 give x2", "none"), ("do 2 give nat#0", "none")]),
                ("(fun x0 : *0 . x0) nat", [("do 0 steps", "1"), ("do 1 turn (fun x0 : *0 . x0) nat", "2"), ("goals", "2 : (fun x0 : *0 . x0) nat"),
                                            ("do 2 give @one", "none")]),
                ("nat", [("do 0 cut nat -> nat", "1 2"), ("goals", "1 : nat -> nat | 2 : nat"), ("do 2 use x0 ; nat#0", "none"), ("do 1 give nat#1", "none")]),
                ("all x0 : nat . same nat nat#0 x0 -> same nat x0 x0",
                 [("do 0 bring", "1"), ("do 1 bring", "2"), ("do 2 put x1", "3"), ("goals", "3 : same nat nat#0 nat#0"),
                  ("do 3 give self nat nat#0", "none")]),
                ("nat -> nat", [("do 0 seek 2", "none")])]:
            many = len(desk.shelf())
            name = "g" + chr(96 + many)
            self.answers(desk, (f"goal {name} : {goal}", "goal 0"), *lines, ("goals", "none"), ("close", str(many + 1)), ("saying " + name, goal))
        self.assertEqual(desk.say("good"), "yes")

    def test_terms_stand_in_the_room_of_the_goal(self):
        desk = told(*BEGIN, "goal a : all x0 : *0 . x0 -> x0", "do 0 bring", "do 1 bring")
        self.no_sign(desk, 0, "do 2 give x2", "do 2 turn x2", "do 2 cut x2", "do 2 put x2", "do 2 use x2", "do 2 use x1 ; x2", "do 2 make 0 ; x2")
        self.answers(desk, ("do 2 cut x0 -> x0", "3 4"))
        self.no_sign(desk, 0, "do 3 give x2")
        self.no_sign(desk, 1, "do 4 give x2 x3")
        self.answers(desk, ("do 4 give x2 x1", "none"), ("do 3 give fun x2 : x0 . x1", "none"), ("close", "4"))

    def test_eight_given_and_nine(self):
        room = "nat -> " * 8 + "nat"
        desk = told(*BEGIN, f"goal a : ({room}) -> nat", "do 0 bring")
        self.answers(desk, ("do 1 use x0" + " ; ?" * 8, "2 3 4 5 6 7 8 9"), ("undo 1", "1"), ("do 1 use x0" + " ; nat#0" * 8, "none"), ("undo 1", "1"))
        self.stays(desk, PaperError, NoDeed, {"found": ("use", A, (None,) * 9)}, "do 1 use x0" + " ; ?" * 9)
        self.stays(desk, PaperError, NoDeed, {"found": ("use", A, (None,) * 8 + (ZERO,))}, "do 1 use x0" + " ; ?" * 8 + " ; nat#0")
        self.stays(desk, PaperError, NoDeed, {"found": ("make", 7, (NAT,) * 9)}, "do 1 make 7" + " ; nat" * 9)
        for depth in (7, 8, 999):
            self.stays(desk, PaperError, NoDeed, {"found": ("seek", depth)}, f"do 1 seek {depth}")
        # A term that can't be read goes ahead.
        self.no_sign(desk, 1, "do 1 use x0" + " ; ?" * 8 + " ; nat#0 )")

    def test_deeds_that_are_refused(self):
        desk = told(*BEGIN, "goal a : nat -> nat", "do 0 bring")
        self.stays(desk, PaperError, NoFit, {"found": ("bring",)}, "do 1 bring")
        self.stays(desk, PaperError, NoFit, {"found": ("give", NAT)}, "do 1 give nat")
        self.stays(desk, PaperError, NoFit, {"found": ("use", SUCC, (None, None))}, "do 1 use nat#1 ; ? ; ?")
        self.stays(desk, PaperError, NoFit, {"found": ("make", 999, ())}, "do 1 make 999")
        self.stays(desk, PaperError, NoFit, {"found": ("split", 1)}, "do 1 split 1")
        self.stays(desk, PaperError, NoFit, {"found": ("turn", K)}, "do 1 turn *0")
        self.stays(desk, PaperError, NoFit, {"found": ("cut", ZERO)}, "do 1 cut nat#0")
        self.stays(desk, PaperError, NoFit, {"found": ("put", A)}, "do 1 put x0")
        self.stays(desk, PaperError, NoPaper, {"spot": (1,), "why": "unlike"}, "do 1 give nat#1 nat")
        self.stays(desk, PaperError, NoPaper, {"spot": (), "why": "name"}, "do 1 use @gone ; ?")


class Goals(Desks):
    def test_begun_and_begun_anew(self):
        desk = told(*BEGIN)
        self.assertIsNone(desk.work())
        self.answers(desk, ("goal a : nat", "goal 0"), ("do 0 use @plus ; ? ; ?", "1 2"), ("goal b : nat -> nat", "goal 0"), ("goals", "0 : nat -> nat"),
                     ("do 0 give nat#1", "none"), ("close", "4"), ("rows", "nat plus one b"))
        for line in ("do 0 bring", "undo 0", "close", "goals"):
            self.stays(desk, PaperError, NoBack, {"found": line}, line)

    def test_refused_in_order(self):
        desk = told(*BEGIN, "goal a : nat", "do 0 steps")
        self.no_sign(desk, 0, "goal one : x0")
        self.stays(desk, PaperError, Doubled, {"found": "one"}, "goal one : nat#0")
        self.stays(desk, PaperError, NoPaper, {"spot": (), "why": "kind"}, "goal b : nat#0")
        self.stays(desk, PaperError, NoPaper, {"spot": (1,), "why": "unlike"}, "goal b : nat#1 nat")
        self.answers(desk, ("goals", "1 : nat"))

    def test_goals_as_they_are(self):
        desk = told(*BEGIN, "goal a : (fun x0 : *0 . x0 -> x0) nat")
        self.answers(desk, ("goals", "0 : (fun x0 : *0 . x0 -> x0) nat"), ("do 0 bring", "1"), ("goals", "1 : nat"), ("do 1 cut same nat x0 x0", "2 3"),
                     ("goals", "2 : same nat x0 x0 | 3 : nat"), ("do 3 cut *0", "4 5"), ("goals", "2 : same nat x0 x0 | 4 : *0 | 5 : nat"),
                     ("undo 1", "1"), ("undo 0", "0"), ("do 0 use nat#1", "none"), ("goals", "none"))

    def test_undone(self):
        desk = told(*BEGIN, "goal a : nat", "do 0 use @plus ; ? ; ?", "do 1 steps", "do 2 make 0")
        self.answers(desk, ("undo 2", "3 2"), ("undo 1", "1 2"))
        for line, hole in [("undo 1", 1), ("undo 3", 3), ("undo 999", 999)]:
            self.stays(desk, NotThere, NoHole, {"found": hole}, line)
        self.answers(desk, ("undo 0", "0"))
        self.stays(desk, NotThere, NoHole, {"found": 0}, "undo 0")

    def test_closed(self):
        desk = told(*BEGIN, "goal a : nat", "do 0 use @plus ; ? ; ?", "do 1 steps")
        self.stays(desk, NoneLeft, Open, {"found": [3, 2]}, "close")
        self.answers(desk, ("do 3 give @one", "none"), ("do 2 give @one", "none"))
        # Closing looks at the paper in the shelf as it is then.
        self.answers(desk, ("rename one two", "ok"))
        self.stays(desk, PaperError, NoPaper, {"spot": (0, 1), "why": "name"}, "close")
        self.answers(desk, ("rename two one", "ok"), ("mean a : nat = @one", "4"))
        self.stays(desk, PaperError, Doubled, {"found": "a"}, "close")
        self.answers(desk, ("rename a b", "ok"), ("change one : *0 = nat", "b"))
        self.stays(desk, PaperError, NoPaper, {"spot": (0, 1), "why": "unlike"}, "close")
        self.answers(desk, ("change one : nat = nat#0", "b"), ("close", "5"), ("paper a", "@plus @one @one"), ("good", "yes"), ("stale", "b"))

    def test_a_change_of_the_shelf_lets_a_work_go_on(self):
        desk = told(*BEGIN, "goal a : same nat @one (nat#1 nat#0)")
        self.answers(desk, ("change one : nat = nat#0", "none"), ("do 0 steps", "1"), ("goals", "1 : same nat (nat#1 nat#0) (nat#1 nat#0)"),
                     ("do 1 give self nat @one", "none"))
        self.assertEqual(desk.work().ground(), Ground([NATS, PLUS, ("mean", "one", NAT, number(1))]))
        self.stays(desk, PaperError, NoPaper, {"spot": (), "why": "unlike"}, "close")
        self.answers(desk, ("change one : nat = nat#1 nat#0", "none"), ("close", "4"))

    def test_a_full_shelf(self):
        desk = told(*BEGIN, *[f"mean {'m' + chr(97 + at)} : nat = nat#0" for at in range(21)], "goal a : nat", "do 0 make 0")
        self.stays(desk, PaperError, NoGround, {"found": 25}, "close")
        self.stays(desk, PaperError, NoGround, {"found": 25}, "mean b : nat = nat#0")
        self.stays(desk, PaperError, NoGround, {"found": 25}, LIST_LINE)
        self.answers(desk, ("out mu", "23"), ("close", "24"))


class Lines(Desks):
    def test_what_is_no_text(self):
        desk = told(*BEGIN, "goal a : nat")
        self.no_line(desk, *[thing for thing in NO_TERMS if not isinstance(thing, str)], b"rows", ["rows"])
        stranger = Stranger()
        refused(self, NoLine, stranger, desk.say, stranger)

    def test_empty_lines_and_line_feeds(self):
        for desk in (Desk(), told(*BEGIN, "goal a : nat")):
            self.no_line(desk, "", " ", "     ", "\n", "rows\n", "\nrows", "rows\ngood", "mean x : nat\n= nat", "what nat\n", "goals\n")

    def test_none_of_these_lines(self):
        for desk in (Desk(), told(*ALL_LINES), told(*BEGIN, "goal a : nat")):
            self.no_line(
                desk, "row", "Rows", "rows rows", "(rows)", "nat", "stale nat", "good yes", "goals 0", "close a", "close 0", "undo", "undo x", "undo 0 0",
                "undo 00", "undo 01", "undo 1000", "undo -1", "undo (0)", "undo nat", "tell", "mean", "mean a", "mean a :", "mean a : nat", "mean a nat = nat",
                "mean a : nat nat", "mean a = nat", "mean A : nat = nat", "mean all : nat = nat", "mean : nat = nat", "mean a0 : nat = nat",
                "mean a: nat = nat", "mean a :nat = nat", "mean (a) : nat = nat", "settle a : nat", "settle a nat = nat", "settle", "change a : nat",
                "change", "change self : nat = nat", "rename", "rename a", "rename a b c", "rename a put", "rename A b", "rename a 0", "renew",
                "renew a b", "renew A", "renew 0", "out", "out a b", "out all", "out abcdefghi", "short", "short a b", "short A", "leans", "leans a b",
                "leans 0", "above", "above fun", "above a b", "saying", "saying a b", "saying @a", "paper", "paper a b", "paper nat#0", "goal",
                "goal a", "goal a nat", "goal same : nat", "goal : nat", "goal a = nat", "do", "do 0", "do 0 0", "do 0 brings", "do bring", "do bring 0",
                "do x bring", "do 00 bring", "do 1000 bring", "do -1 bring", "do 0 bring x0", "do 0 steps nat", "do 0 split", "do 0 split x0",
                "do 0 split 0 0", "do 0 split 00", "do 0 split 1000", "do 0 make", "do 0 make x", "do 0 make ; ?", "do 0 make 0 ?", "do 0 make 0 nat ; ?",
                "do 0 make 00", "do 0 make 1000", "do 0 seek", "do 0 seek x", "do 0 seek 1 1", "do 0 seek 01", "do 0 seek 1000", "do 0 then bring",
                "do 0 skip", "do 0 try bring", "do 0 again bring 1", "do 0 first bring", "do 0 undo", "Do 0 bring", "do 0 Bring", "; ?", "| maker",
                "whats nat", "works nat", "help")

    def test_things_that_can_not_be_read(self):
        for desk in (Desk(), told(*ALL_LINES)):
            self.no_line(
                desk, "tell nat", "tell thing", "tell thing nat", "tell thing a 6", "tell thing a 00", "tell thing all 0", "tell thing a 0 |",
                "tell | thing a 0", "tell thing a 0 | | maker", "tell thing a 0 maker", "tell maker", "tell thing a 0 | bound", "tell thing a 0 | bound x0",
                "tell thing a 0 | bound *6", "tell thing a 0 | bound *0 )", "tell thing a 0 | maker *0", "tell thing a 0 | arg *0",
                "tell thing a 0 | maker | bound *0", "tell thing a 0 | maker | arg x0", "tell thing a 0 | maker | arg", "tell thing a 0 | thing b 0",
                "tell mean a : nat = nat", "tell hold a : nat", "tell thing a 0 | hold b : *0", "tell thing a 0 ; maker", "tell thing a 0 || maker",
                "tell thing a 0 | bound *0 | bound *0 | bound *0 | bound *0", "tell thing a 0" + " | maker" * 6,
                "tell thing a 0 | maker" + " | arg *0" * 5, "tell (thing a 0)")

    def test_things_as_they_are_shown(self):
        desk = Desk()
        for many, row in enumerate(ROWS_OF_THINGS):
            self.assertEqual(desk.say("tell " + " | ".join(show_ground(Ground([row])).split("\n"))), str(many + 1))
        self.assertEqual(desk.shelf().ground(), Ground(ROWS_OF_THINGS))
        self.answers(desk, ("rows", " ".join(row[1] for row in ROWS_OF_THINGS)), ("saying tree", "all x0 : *0 . (x0 -> *0) -> *1"))

    def test_lines_without_a_work(self):
        desk = told(*ALL_LINES)
        for line in ["goals", "close", "undo 0", "undo 999", "do 0 bring", "do 7 give )", "do 0 give", "do 0 use nat ; x0", "do 0 seek 9",
                     "do 0 make 0 ;", "  goals  "]:
            self.stays(desk, PaperError, NoBack, {"found": line}, line)
            with self.assertRaises(NoBack) as caught:
                desk.say(line)
            self.assertIs(caught.exception.found, line)

    def test_holes_go_ahead_of_terms(self):
        desk = told(*BEGIN, "goal a : nat", "do 0 steps")
        for line, hole in [("do 0 bring", 0), ("do 2 give )", 2), ("do 0 give", 0), ("do 999 use ; ?", 999), ("do 5 seek 9", 5), ("do 0 split 7", 0),
                           ("do 2 use nat" + " ; ?" * 9, 2)]:
            self.stays(desk, NotThere, NoHole, {"found": hole}, line)
        self.no_sign(desk, 0, "do 1 give )", "do 1 give")

    def test_terms_that_can_not_be_read(self):
        desk = told(*BEGIN, "goal a : nat")
        self.no_sign(desk, 0, "what", "work", "what x0", "work )", "goal b :", "goal b : x0", "mean b : = nat", "mean b : = ", "mean b : nat =",
                     "settle b : =", "settle b : = )", "change one : = nat#0", "do 0 give", "do 0 turn", "do 0 cut", "do 0 put", "do 0 use",
                     "do 0 use ; ?", "do 0 use ;", "do 0 use nat ;", "do 0 use nat ; ? ;", "do 0 use nat ; ; ?", "do 0 make 0 ;", "do 0 make 0 ; ? ;",
                     "do 0 give ?", "do 0 use ?", "do 0 use nat ; ? ?", "do 0 use nat ; )")
        self.no_sign(desk, 1, "what nat )", "work (", "goal b : nat = nat", "mean b : nat ) = x0", "mean b : nat = nat = nat", "mean b : ( = )",
                     "settle b : ( = (", "what nat ; nat", "work nat | nat", "do 0 give nat ; nat", "do 0 use nat ; nat ?", "do 0 use nat ; ( ; )")
        self.no_sign(desk, 2, "what self nat", "settle b : nat = self nat", "do 0 use nat ; ? ; nat nat ) ; x0")
        # They are looked at ahead of names and all else.
        self.no_sign(desk, 0, "mean one : nat = )", "change gone : nat = )", "change nat : ) = nat", "settle one : nat#0 = x0")

    def test_names_that_are_not_there(self):
        desk = told(*ALL_LINES)
        for line in ["renew gone", "out gone", "short gone", "rename gone nat", "rename gone gone", "change gone : nat#0 = nat", "leans gone", "above gone",
                     "saying gone", "paper gone"]:
            self.stays(desk, NotThere, NotOnShelf, {"found": "gone"}, line)
        for line in ["paper nat", "short list"]:
            self.stays(desk, NotThere, NotOnShelf, {"found": line.split()[1]}, line)


class Shelves(Desks):
    def test_what_the_shelf_refuses(self):
        desk = told(*ALL_LINES)
        self.stays(desk, PaperError, Doubled, {"found": "nat"}, "tell thing nat 0")
        self.stays(desk, PaperError, Unsound, {"row": 7, "where": ("maker", 0, 0), "spot": (0,), "why": "growing"},
                   "tell thing a 0 | maker | arg a -> nat")
        self.stays(desk, PaperError, Unsound, {"row": 7, "where": ("bound", 0), "spot": (), "why": "kind"}, "tell thing a 0 | bound nat#0")
        for word in ("mean", "settle"):
            self.stays(desk, PaperError, Doubled, {"found": "ends"}, f"{word} ends : nat#0 = nat")
            self.stays(desk, PaperError, NoPaper, {"spot": (), "why": "kind"}, f"{word} a : nat#0 = nat")
            self.stays(desk, PaperError, NoPaper, {"spot": (), "why": "unlike"}, f"{word} a : nat = nat")
        self.stays(desk, PaperError, Doubled, {"found": "one"}, "rename plus one")
        self.stays(desk, PaperError, NoFit, {"found": "nat"}, "change nat : *0 = nat")
        self.stays(desk, PaperError, NoPaper, {"spot": (), "why": "unlike"}, "change one : nat = nat")
        self.stays(desk, PaperError, NoFit, {"found": "one"}, "renew one")
        self.stays(desk, PaperError, Leant, {"found": ["ofone", "both"]}, "out one")
        self.stays(desk, PaperError, NoFit, {"found": "plus"}, "short plus")
        desk.say("change one : nat = nat#0")
        self.stays(desk, PaperError, Stale, {"found": ["both"]}, "short both")
        desk.say("change ends : nat = nat#0")
        desk.say("change plus : nat -> nat = fun x0 : nat . x0")
        self.stays(desk, PaperError, NoPaper, {"spot": (1, 0), "why": "all"}, "renew ofone")

    def test_terms_that_are_asked(self):
        desk = told(*ALL_LINES)
        self.answers(desk, ("what *0", "*1"), ("what nat!0", EATER_SAYING), ("what @ends", ENDS_WORKED),
                     ("what fun x0 : nat . @plus @one x0", "nat -> nat"), ("work fun x0 : nat . @plus @one x0", "fun x0 : nat . nat#1 x0"),
                     ("work @one", "nat#1 nat#0"), ("work @ends", "@ends"), ("work same nat @one @one", "same nat (nat#1 nat#0) (nat#1 nat#0)"))
        for word in ("what", "work"):
            self.stays(desk, PaperError, NoPaper, {"spot": (1,), "why": "unlike"}, word + " nat#1 nat")
            self.stays(desk, PaperError, NoPaper, {"spot": (), "why": "height"}, word + " *5")
            self.stays(desk, PaperError, NoPaper, {"spot": (0,), "why": "name"}, word + " @gone nat#0")
        desk.say("change ends : nat = nat#0")
        self.stays(desk, PaperError, NoPaper, {"spot": (), "why": "name"}, "what @ofone")
        self.answers(desk, ("what @ends", "nat"))

    def test_what_is_asked_changes_nothing(self):
        desk = told(*ALL_LINES, "goal a : nat -> nat", "do 0 bring")
        ahead = seen(desk)
        for line in ["rows", "stale", "leans ends", "above nat", "saying nat", "paper one", "what nat", "work nat", "goals", "good"]:
            self.assertEqual(desk.say(line), desk.say(line))
            self.assertEqual(seen(desk), ahead)
        self.answers(desk, ("saying nat", "*0"), ("paper one", "nat#1 nat#0"), ("saying one", "nat"), ("leans list", "none"), ("above both", "none"),
                     ("above one", "ofone both"))

    def test_twins(self):
        desk = told(*BEGIN, "goal a : nat", "do 0 use @plus ; ? ; ?")
        shelf, work = desk.shelf(), desk.work()
        self.assertIsInstance(shelf, Shelf)
        self.assertIsInstance(work, Work)
        self.assertEqual(work.holes(), [1, 2])
        shelf.rename("one", "two")
        work.do(1, ("make", 0, ()))
        self.assertEqual((desk.say("rows"), desk.say("goals")), ("nat plus one", "1 : nat | 2 : nat"))
        desk.say("do 2 make 0")
        desk.say("out one")
        self.assertEqual((work.holes(), shelf.names()), ([2], ["nat", "plus", "two"]))
        self.assertEqual(desk.work().do(1, ("steps",)), [3])
        self.assertEqual(desk.say("do 1 steps"), "3")

    def test_two_desks(self):
        one, other = told(*BEGIN), Desk()
        self.assertEqual((one.say("rows"), other.say("rows")), ("nat plus one", "none"))
        self.assertEqual(other.say(line="rows"), "none")
        self.assertEqual(told(*ALL_LINES).shelf(), told(*ALL_LINES).shelf())


EATER_SAYING = "all x0 : nat -> *0 . x0 nat#0 -> (all x1 : nat . x0 x1 -> x0 (nat#1 x1)) -> all x1 : nat . x0 x1"
ENDS_WORKED = "all x0 : nat . same nat (nat!0 (fun x1 : nat . nat) nat#0 (fun x1 : nat . fun x2 : nat . nat#1 x2) x0) x0"


if __name__ == "__main__":
    unittest.main()
