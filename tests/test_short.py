"""Points 111 to 113: papers shortened."""

import unittest
from kernelpapers.errors import NoFit, NoGround, NoPaper, NoRoom, NoTerm, PaperError, Stale
from kernelpapers.grounds import Ground
from kernelpapers.kernel import saying_of
from kernelpapers.shelf import Shelf
from kernelpapers.short import is_short, shorten, shortened, shortenings
from kernelpapers.terms import size
from kernelpapers.texts import read
from kernelpapers.worths import saying_by_worths
import plain_short
from goods import GROUND, PLUS, ROWS, Goods, feed, number
from samples import (A, B, C, K, NAT, NATS, NO_GROUNDS, NO_ROOMS, NO_TERMS, NOTHINGS, SUCC, ZERO, Stranger, app, at, every, fun, refused,
                     refused_as)
from test_deeds import terms
from test_handed import spoil
from test_shelf import ENDS, NO_NAMES, development, no_shelf

LETTERS = Ground([("thing", letter, 0, (), ()) for letter in "abcd"])


class Shortenings(unittest.TestCase):
    def tells(self, room, paper, *told, ground=GROUND):
        """All shortenings of a paper: the spot, the word and the text of the whole, in order."""
        around = terms(room)
        term = read(paper, len(around))
        wanted = [(spot, word, read(text, len(around))) for spot, word, text in told]
        self.assertEqual(shortenings(ground, around, term), wanted)
        self.assertEqual(plain_short.shortenings(ground, around, term), wanted)

    def test_none(self):
        for paper in ["nat#0", "*0", "nat#1 nat#0", "fun x0 : nat . x0", "nat -> nat", "self nat nat#0", "nat!0", "@belief", "@some"]:
            self.tells([], paper)
        self.tells(["nat"], "x0")
        self.tells(["nat", "nat -> nat"], "fun x2 : bool . x2")

    def test_by_each_rule(self):
        self.tells([], "(fun x0 : bool . nat#0) bool#1", ((), "give", "nat#0"))
        self.tells([], "@nums", ((), "mean", "nat"))
        self.tells([], "put (fun x0 : nat . bool) (self nat nat#0) bool#1", ((), "self", "bool#1"))
        self.tells([], "nat!0 (fun x0 : nat . bool) bool#0 (fun x0 : nat . fun x1 : bool . bool#1) nat#0", ((), "eat", "bool#0"),
                   ((0, 1, 1, 1), "room", "nat!0 (fun x0 : nat . bool) bool#0 (fun x0 : nat . fun x1 : bool . x1) nat#0"))
        self.tells([], "fun x0 : @nums . (fun x1 : bool . nat#0) bool#1",
                   ((0,), "mean", "fun x0 : nat . (fun x1 : bool . nat#0) bool#1"), ((1,), "give", "fun x0 : @nums . nat#0"),
                   ((1,), "room", "fun x0 : @nums . x0"), ((1, 0, 1), "room", "fun x0 : @nums . (fun x1 : bool . x0) bool#1"))

    def test_the_least_place_of_the_room(self):
        self.tells(["nat"], "nat#0", ((), "room", "x0"))
        self.tells(["nat", "bool", "nat", "bool"], "nat#0", ((), "room", "x2"))
        self.tells(["*0", "x0", "x0 -> x0"], "x2 x1", ((), "room", "x1"))
        # No place gives way to another one.
        self.tells(["nat", "nat"], "x0")
        self.tells(["nat", "nat"], "nat#1 x0", ((), "room", "x1"))
        self.tells(["nat -> nat"], "nat#1", ((), "room", "x0"))
        self.tells(["*0"], "nat", ((), "room", "x0"))
        self.tells(["*0"], "self *0 nat", ((1,), "room", "self *0 x0"))

    def test_sayings_worked_out(self):
        self.tells(["@nums"], "nat#0", ((), "room", "x0"))
        self.tells(["same nat (@plus nat#0 nat#0) nat#0"], "self nat nat#0", ((), "room", "x0"))
        self.tells(["(fun x0 : *0 . x0) bool"], "nat#0")

    def test_rooms_with_the_binders_above(self):
        self.tells([], "fun x0 : nat . nat#0", ((1,), "room", "fun x0 : nat . x0"))
        self.tells([], "fun x0 : nat . fun x1 : bool . nat#0", ((1, 1), "room", "fun x0 : nat . fun x1 : bool . x0"))
        self.tells(["nat"], "fun x1 : nat . nat#1 x0", ((1,), "room", "fun x1 : nat . x1"))
        # The saying of a binder stands in no such room.
        self.tells([], "fun x0 : same nat nat#0 nat#0 . x0")
        self.tells([], "fun x0 : nat . fun x1 : same nat nat#0 x0 . x1",
                   ((1, 0, 1), "room", "fun x0 : nat . fun x1 : same nat x0 x0 . x1"))
        self.tells([], "all x0 : *0 . all x1 : x0 . nat", ((1,), "room", "all x0 : *0 . x0"),
                   ((1, 1), "room", "all x0 : *0 . all x1 : x0 . x0"))

    def test_rooms_of_twelve_with_binders_around(self):
        room = ["*0"] * 12
        self.tells(room, "fun x12 : nat . fun x13 : nat . nat#0",
                   ((0,), "room", "fun x12 : x11 . fun x13 : nat . nat#0"), ((1, 0), "room", "fun x12 : nat . fun x13 : x11 . nat#0"),
                   ((1, 1), "room", "fun x12 : nat . fun x13 : nat . x13"))
        self.tells(["nat"] + ["*0"] * 11, "fun x12 : x1 . fun x13 : x2 . nat#0",
                   ((1, 1), "room", "fun x12 : x1 . fun x13 : x2 . x0"))

    def test_bare(self):
        self.tells(["a -> b"], "fun x1 : a . x0 x1", ((), "room", "x0"), ((), "bare", "x0"), ground=LETTERS)
        self.tells([], "fun x0 : nat . nat#1 x0", ((), "bare", "nat#1"), ((1,), "room", "fun x0 : nat . x0"))
        self.tells([], "fun x0 : nat . @plus x0 x0", ((1,), "room", "fun x0 : nat . x0"),
                   ((1, 0, 0), "mean", "fun x0 : nat . (fun x1 : nat . fun x2 : nat . nat!0 (fun x3 : nat . nat) x2 (fun x3 : nat . "
                    "fun x4 : nat . nat#1 x4) x1) x0 x0"))
        self.tells(["a", "a -> a -> b"], "fun x2 : a . fun x3 : a . x1 x2 x3", ((), "room", "x1"),
                   ((1,), "bare", "fun x2 : a . x1 x2"), ground=LETTERS)
        self.tells(["a -> a -> b"], "fun x1 : a . x0 x1 x1", ground=LETTERS)
        self.tells(["a -> a -> b"], "all x1 : a . same b (x0 x1 x1) (x0 x1 x1)", ground=LETTERS)
        # All is never bare.
        self.tells(["a -> *0"], "all x1 : a . x0 x1", ground=LETTERS)

    def test_of_one_spot_in_order(self):
        self.tells(["nat -> nat"], "fun x1 : nat . (fun x2 : nat . x2) x1", ((), "room", "x0"), ((), "bare", "fun x2 : nat . x2"),
                   ((1,), "give", "fun x1 : nat . x1"), ((1,), "room", "fun x1 : nat . x1"), ((1, 0), "room", "fun x1 : nat . x0 x1"))

    def test_what_comes_of_it_need_not_have_a_saying(self):
        told = shortenings(GROUND, terms(["*0"]), read("list#1 nat nat#0 (list#0 nat)", 1))
        self.assertIn(((0, 0, 1), "room", read("list#1 x0 nat#0 (list#0 nat)", 1)), told)
        with self.assertRaises(NoPaper):
            saying_of(GROUND, [K], read("list#1 x0 nat#0 (list#0 nat)", 1))

    def test_by_names(self):
        self.assertEqual(shortenings(paper=ZERO, room=[NAT], ground=GROUND), [((), "room", A)])
        self.assertEqual(shortenings(GROUND, (NAT,), ZERO), [((), "room", A)])
        self.assertIs(is_short(paper=ZERO, room=[NAT], ground=GROUND), True)
        self.assertEqual(shortened(paper=number(1), room=(NAT,), ground=GROUND), A)


class Short(unittest.TestCase):
    def becomes(self, room, paper, *told, ground=GROUND):
        """A shortened paper is one of these."""
        around = terms(room)
        term = read(paper, len(around))
        made = shortened(ground, around, term)
        self.assertIn(made, [read(text, len(around)) for text in told])
        self.assertIs(is_short(ground, around, made), True)
        self.assertIs(is_short(ground, around, term), made == term)
        self.assertTrue(plain_short.is_short(ground, around, made))
        self.assertEqual(saying_of(ground, around, made), saying_of(ground, around, term))
        self.assertEqual(saying_by_worths(ground, around, made), saying_by_worths(ground, around, term))
        self.assertEqual(made == term, size(made) == size(term))

    def test_papers_that_can_not_be_shortened(self):
        for room, paper in [([], "nat#0"), ([], "*0"), (["nat"], "x0"), (["nat"], "nat#0"), ([], "nat"), ([], "@nums"), ([], "fun x0 : nat . x0"),
                            ([], "self nat nat#0"), (["*0"], "nat"), ([], "@plus")]:
            self.becomes(room, paper, paper)

    def test_by_each_word(self):
        self.becomes([], "(fun x0 : bool . nat#0) bool#1", "nat#0")
        self.becomes([], "put (fun x0 : nat . bool) (self nat nat#0) bool#1", "bool#1")
        self.becomes([], "nat!0 (fun x0 : nat . bool) bool#0 (fun x0 : nat . fun x1 : bool . bool#1) nat#0", "bool#0")
        self.becomes(["nat"], "nat#1 (nat#1 nat#0)", "x0")
        self.becomes([], "fun x0 : nat . nat#1 x0", "nat#1")
        self.becomes([], "fun x0 : bool . nat#1 (@plus nat#0 nat#0)", "fun x0 : bool . nat#1 (@plus nat#0 nat#0)")
        # A name is as small as its own term at the least, so it doesn't give way to a smaller one.
        self.becomes([], "@id @nums nat#0", "@id @nums nat#0")

    def test_by_one_alone(self):
        self.becomes([], "self *0 ((fun x0 : *0 . x0 -> x0) (same nat nat#0 nat#0))",
                     "self *0 (same nat nat#0 nat#0 -> same nat nat#0 nat#0)")
        # Given thrice it would be longer.
        paper = "self *0 ((fun x0 : *0 . x0 -> x0 -> x0) (same nat nat#0 nat#0))"
        self.becomes([], paper, paper)

    def test_several_behind_one_another(self):
        self.becomes(["a", "a -> b"], "(fun x2 : a . (fun x3 : b . x3) (x1 x2)) x0", "x1 x0", ground=LETTERS)
        self.becomes(["a", "b"], "(fun x2 : a -> b . x2 x0) (fun x3 : a . x1)", "x1", ground=LETTERS)
        self.becomes(["a -> b -> c"], "fun x1 : a . fun x2 : b . x0 x1 x2", "x0", ground=LETTERS)
        self.becomes([], "fun x0 : a -> b -> c . fun x1 : a . fun x2 : b . x0 x1 x2", "fun x0 : a -> b -> c . x0", ground=LETTERS)
        self.becomes(["a", "a -> a"], "x1 (x1 (x1 x0))", "x0", ground=LETTERS)

    def test_another_saying_does_not_better_it(self):
        # A smaller number would be there at hand, but the saying tells which one it is.
        self.becomes(["nat"], "self nat (nat#1 nat#0)", "self nat (nat#1 nat#0)")
        self.becomes(["*0", "x0"], "@id (list nat) (list#0 nat)", "@id (list nat) (list#0 nat)")
        self.becomes(["list nat"], "@id (list nat) (list#1 nat nat#0 x0)", "x0")

    def test_as_long_is_no_better(self):
        self.becomes(["nat"], "nat#0", "nat#0")
        self.becomes([], "@nums", "@nums")
        # To give it twice would be longer.
        self.becomes([], "self nat ((fun x0 : nat . @plus x0 x0) (nat#1 (nat#1 nat#0)))",
                     "self nat ((fun x0 : nat . @plus x0 x0) (nat#1 (nat#1 nat#0)))")

    def test_by_chance(self):
        shorter = 0
        for room, paper, told in Goods(112).many(40, 3):
            if size(paper) > 80:
                continue
            found = shortenings(GROUND, room, paper)
            self.assertEqual(found, plain_short.shortenings(GROUND, room, paper))
            made = shortened(GROUND, room, paper)
            self.assertEqual(saying_of(GROUND, room, made), told)
            self.assertEqual(saying_by_worths(GROUND, room, made), told)
            self.assertLessEqual(size(made), size(paper))
            self.assertIs(is_short(GROUND, room, paper), plain_short.is_short(GROUND, room, paper))
            self.assertIs(plain_short.is_short(GROUND, room, made), True)
            if size(paper) < 25:
                self.assertTrue(plain_short.comes_of(GROUND, room, made, paper))
            shorter += made != paper
        self.assertGreater(shorter, 15)

    def test_large_papers(self):
        term = ZERO
        for _ in range(30):
            term = app(fun(NAT, app(SUCC, A)), app(fun(K, fun(A, A)), NAT, term))
        self.assertGreater(size(term), 380)
        self.assertEqual(shortened(GROUND, [], term), number(30))
        self.assertEqual(len(shortenings(GROUND, [], term)), 30 * 2 + 30 * 2)


class Refused(unittest.TestCase):
    def test_each_kind_in_order(self):
        for deed in (shortenings, is_short, shortened):
            for thing in [*NO_GROUNDS, Stranger()]:
                refused(self, NoGround, thing, deed, thing, None, None)
            for thing in [*NO_ROOMS, Stranger()]:
                refused(self, NoRoom, thing, deed, GROUND, thing, None)
            for thing in [*NO_TERMS, Stranger()]:
                refused(self, NoTerm, thing, deed, GROUND, [], thing)
            for room, paper, spot, why in [([], A, (), "place"), ([NAT], app(A, A), (0,), "all"), ([], app(SUCC, K), (1,), "unlike"),
                                           ([], ("kind", 5), (), "height"), ([], fun(NAT, app(SUCC, ("name", "gone"))), (1, 1), "name")]:
                refused_as(self, PaperError, NoPaper, {"spot": spot, "why": why}, deed, GROUND, room, paper)

    def test_told_lists_are_the_askers_own(self):
        room, paper = [NAT], app(SUCC, app(SUCC, ZERO))
        ahead = shortenings(GROUND, room, paper)
        spoil(shortenings(GROUND, room, paper))
        self.assertEqual(shortenings(GROUND, room, paper), ahead)
        self.assertEqual((room, shortened(GROUND, room, paper)), ([NAT], shortened(Ground(ROWS), tuple(room), paper)))


class Shorten(unittest.TestCase):
    def test_the_shelf_has_the_shorter_one(self):
        shelf = development()
        long = app(fun(NAT, read("self nat @one", 1)), app(("name", "plus"), ZERO, ZERO))
        shelf.settle("long", read("same nat @one (nat#1 nat#0)"), long)
        ahead = shelf.twin()
        self.assertEqual(shelf.leans("long"), ["nat", "plus", "one"])
        self.assertEqual(shorten(shelf, "long"), size(long) - 3)
        self.assertEqual(shelf.paper("long"), read("self nat @one"))
        self.assertEqual(shelf.leans("long"), ["nat", "one"])
        self.assertEqual((shelf.saying("long"), shelf.names(), shelf.stale()), (ahead.saying("long"), ahead.names(), []))
        self.assertEqual([shelf.paper(name) for name in shelf.names()[1:5]], [ahead.paper(name) for name in shelf.names()[1:5]])
        self.assertIs(shelf.good(), True)
        self.assertEqual(shorten(shelf, "long"), 0)
        self.assertEqual(shorten(name="long", shelf=shelf), 0)

    def test_its_script_is_gone(self):
        shelf = Shelf()
        shelf.tell(NATS)
        shelf.settle_by("a", every(NAT, NAT), ("give", fun(NAT, app(SUCC, A))))
        shelf.settle_by("b", every(NAT, NAT), ("give", SUCC))
        shelf.settle("c", NAT, app(("name", "a"), ZERO))
        self.assertEqual((shorten(shelf, "a"), shelf.script("a"), shelf.paper("a")), (4, None, SUCC))
        # Where all stays the script does, too.
        self.assertEqual((shorten(shelf, "b"), shelf.script("b")), (0, ("give", SUCC)))
        self.assertEqual((shelf.stale(), shelf.above("a")), ([], ["c"]))

    def test_by_one_alone(self):
        shelf = development()
        short = "(same nat nat#0 nat#0 -> same nat nat#0 nat#0)"
        shelf.settle("long", read(f"same *0 {short} {short}"), read("self *0 ((fun x0 : *0 . x0 -> x0) (same nat nat#0 nat#0))"))
        self.assertEqual((shorten(shelf, "long"), shelf.paper("long")), (1, read("self *0 " + short)))

    def test_in_the_ground_ahead(self):
        shelf = development()
        for name in ("ends", "ofone", "both"):
            made = shortened(shelf.ground_ahead(name), [], shelf.paper(name))
            less = size(shelf.paper(name)) - size(made)
            other = shelf.twin()
            self.assertEqual(shorten(other, name), less)
            self.assertEqual(other.paper(name), made if less else shelf.paper(name))
        self.assertEqual(shorten(shelf, "ends"), 4)
        shelf.rename("plus", "sum")
        self.assertEqual(shorten(shelf, "ends"), 0)
        shelf.settle_by("again", read(ENDS.replace("plus", "sum")), ("give", read("fun x0 : nat . @ends x0")))
        self.assertEqual(shorten(shelf, "again"), 4)
        self.assertEqual(shelf.paper("again"), ("name", "ends"))

    def test_refused_in_order(self):
        shelf = development()
        for thing in [*NO_NAMES, "gone", "nat", "list"]:
            no_shelf(self, thing, shorten, shelf, thing)
        for name in ("plus", "one"):
            refused(self, NoFit, name, shorten, shelf, name)
        shelf.mean("two", NAT, app(SUCC, ("name", "one")))
        shelf.change("one", NAT, ZERO)
        for name in ("ofone", "both"):
            refused_as(self, PaperError, Stale, {"found": [name]}, shorten, shelf, name)
        # A meaning, stale or not.
        refused(self, NoFit, "two", shorten, shelf, "two")
        self.assertEqual(shelf.stale(), ["ofone", "both", "two"])


if __name__ == "__main__":
    unittest.main()
