"""Points 104, 105 and 107: rows renamed, changed and renewed, papers set, twins, and equal shelves."""

import random
import unittest
from kernelpapers.errors import (Doubled, NoFit, NoName, NoneGoes, NoneLeft, NoPaper, NoTerm, Open, PaperError, Stale, Unsound)
from kernelpapers.grounds import Ground
from kernelpapers.kernel import unsound
from kernelpapers.shelf import Shelf
from kernelpapers.texts import read
from goods import PLUS, number
from samples import A, B, K, LIST, NAT, NATS, NONE, NO_TERMS, NOTHINGS, SUCC, ZERO, Stranger, app, at, every, fun, refused, refused_as
from test_scripts import again, attempt, each, first, then
from test_shelf import ENDS, ENDS_BY, NO_NAMES, Checked, development, full, no_shelf
from test_work import is_open

# A sum that goes by the second number.
OTHER = read("fun x0 : nat . fun x1 : nat . nat!0 (fun x2 : nat . nat) x0 (fun x2 : nat . fun x3 : nat . nat#1 x3) x1")
NAMES = "@one"


def seen(shelf):
    """All that a shelf tells."""
    return [(name, shelf.saying(name), shelf.script(name), shelf.leans(name), shelf.above(name), shelf.ground_ahead(name).rows())
            for name in shelf.names()], shelf.stale(), shelf.ground().rows(), len(shelf)


class Renamed(Checked):
    def test_everywhere(self):
        shelf = development()
        self.assertIsNone(shelf.rename("plus", "sum"))
        self.assertEqual(shelf.names(), ["nat", "sum", "one", "ends", "ofone", "list", "both"])
        self.assertEqual(shelf.saying("ends"), read("all x0 : nat . same nat (@sum x0 nat#0) x0"))
        self.assertEqual(shelf.script("ends")[2][2][1][1], ("put", read(
            "put (fun x3 : nat . same nat x3 (@sum x1 nat#0)) x2 (self nat (@sum x1 nat#0))", 3)))
        self.assertEqual(shelf.leans("ofone"), ["nat", "sum", "one", "ends"])
        no_shelf(self, NAMES, shelf.saying, NAMES)
        no_shelf(self, "plus", shelf.saying, "plus")
        self.check(shelf)
        shelf.rename("sum", "plus")
        self.assertEqual(shelf, development())

    def test_a_thing(self):
        shelf = Shelf()
        shelf.tell(NATS)
        shelf.tell(LIST)
        shelf.tell(("thing", "tree", 1, (K, every(NAT, K)), ((), (NAT, app(("thing", "list"), at(2)), every(K, app(("thing", "tree"), at(4), at(3)))))))
        shelf.settle_by("a", NAT, first(("give", app(("eater", "nat", 0), ZERO)), ("make", 0, ())))
        shelf.rename("nat", "num")
        self.assertEqual(shelf.ground().rows(), [
            ("thing", "num", 0, (), ((), (("thing", "num"),))), LIST,
            ("thing", "tree", 1, (K, every(("thing", "num"), K)),
             ((), (("thing", "num"), app(("thing", "list"), at(2)), every(K, app(("thing", "tree"), at(4), at(3)))))),
            ("hold", "a", ("thing", "num"))])
        self.assertEqual(shelf.paper("a"), ("maker", "num", 0))
        self.assertEqual(shelf.script("a"), first(("give", app(("eater", "num", 0), ("maker", "num", 0))), ("make", 0, ())))
        shelf.rename("tree", "bush")
        self.assertEqual(shelf.ground().told("bush")[4][1][2], every(K, app(("thing", "bush"), at(4), at(3))))
        self.check(shelf)

    def test_each_form_of_a_script(self):
        one, two = ("name", "one"), ("name", "two")

        def script(name):
            return then(("skip",), attempt(("use", name, (None, name))), again(("give", app(SUCC, name)), 0), each(
                ("turn", NAT), first(("make", 1, (name, None, None)), ("cut", app(name, name)), ("put", name), ("seek", 1))))

        shelf = Shelf()
        shelf.tell(NATS)
        shelf.mean("one", NAT, number(1))
        shelf.settle_by("a", NAT, script(one))
        shelf.rename("one", "two")
        self.assertEqual(shelf.script("a"), script(two))
        self.assertEqual(shelf.leans("a"), ["nat", "two"])

    def test_in_scripts_of_rows_ahead(self):
        shelf = Shelf()
        shelf.settle_by("a", ("kind", 1), first(("give", ("name", "later")), ("give", K)))
        shelf.mean("later", ("kind", 1), K)
        shelf.rename("later", "last")
        self.assertEqual(shelf.script("a"), first(("give", ("name", "last")), ("give", K)))
        self.assertEqual(shelf.leans("a"), [])

    def test_stale_rows_stay_so(self):
        shelf = development()
        shelf.change("one", NAT, ZERO)
        shelf.rename("both", "all" + "s")
        shelf.rename("one", "none")
        self.assertEqual((shelf.stale(), shelf.above("none")), (["ofone", "alls"], ["ofone", "alls"]))
        self.assertEqual(shelf.paper("ofone"), read("@ends @none"))

    def test_to_its_own_name(self):
        shelf = development()
        for name in shelf.names():
            self.assertIsNone(shelf.rename(name, name))
        self.assertEqual(shelf, development())

    def test_refused_in_order(self):
        shelf = development()
        for thing in NO_NAMES:
            refused(self, NoName, thing, shelf.rename, "one", thing)
            no_shelf(self, thing, shelf.rename, thing, "one")
        for name in ("nat", "one", "both"):
            refused(self, Doubled, name, shelf.rename, "plus", name)
            no_shelf(self, "gone", shelf.rename, "gone", name)
        self.assertEqual(shelf, development())


class Changed(Checked):
    def test_all_above_are_stale(self):
        shelf = development()
        self.assertEqual(shelf.change("plus", PLUS[2], OTHER), ["ends", "ofone"])
        self.assertEqual((shelf.stale(), shelf.names()), (["ends", "ofone"], development().names()))
        self.assertEqual((shelf.saying("plus"), shelf.paper("plus"), shelf.paper("ends")), (PLUS[2], OTHER, development().paper("ends")))
        self.assertEqual(shelf.ground().names(), ["nat", "plus", "one", "list", "both"])
        self.check(shelf)
        # Those that were stale already are told, too; others that are aren't.
        self.assertEqual(shelf.change("one", NAT, ZERO), ["ofone", "both"])
        self.assertEqual(shelf.stale(), ["ends", "ofone", "both"])
        self.assertEqual(shelf.change("plus", PLUS[2], PLUS[3]), ["ends", "ofone"])
        self.assertEqual(shelf.stale(), ["ends", "ofone", "both"])
        self.check(shelf)

    def test_just_those_that_lean_on_it(self):
        shelf = development()
        self.assertEqual(shelf.change("both", NAT, ZERO), [])
        self.assertEqual((shelf.stale(), shelf.saying("both"), shelf.ground().told("both")), ([], NAT, ("hold", "both", NAT)))
        self.assertEqual(shelf.change("ends", every(NAT, NAT), fun(NAT, A)), ["ofone"])

    def test_its_script_is_gone(self):
        shelf = development()
        self.assertEqual(shelf.change("ends", read(ENDS), shelf.paper("ends")), ["ofone"])
        self.assertIsNone(shelf.script("ends"))
        self.assertIsNone(shelf.renew("ofone"))
        other = development()
        self.assertNotEqual(shelf, other)
        other.set_paper("ends", other.paper("ends"))
        self.assertEqual(shelf, other)

    def test_a_stale_row_is_changed(self):
        shelf = development()
        shelf.change("plus", PLUS[2], OTHER)
        # By the other sum it holds at once.
        self.assertEqual(shelf.change("ends", read(ENDS), read("fun x0 : nat . self nat x0")), ["ofone"])
        self.assertEqual(shelf.stale(), ["ofone"])
        self.assertIsNone(shelf.renew("ofone"))
        self.assertEqual(shelf.stale(), [])
        self.check(shelf)

    def test_it_is_looked_at_in_the_ground_ahead(self):
        shelf = development()
        for name in ("one", "both", "list", "ends"):
            refused_as(self, PaperError, NoPaper, {"spot": (), "why": "name"}, shelf.change, "one", NAT, ("name", name))
        shelf.change("plus", PLUS[2], OTHER)
        # What is stale isn't there.
        refused_as(self, PaperError, NoPaper, {"spot": (0,), "why": "name"}, shelf.change, "ofone", shelf.saying("ofone"), read("@ends @one"))
        self.assertEqual(shelf.change("ofone", shelf.saying("ofone"), read("self nat @one")), [])
        self.assertEqual(shelf.stale(), ["ends"])

    def test_refused_in_order(self):
        shelf = development()
        shelf.change("plus", PLUS[2], OTHER)
        ahead = shelf.twin()
        for name in ("nat", "list"):
            refused(self, NoFit, name, shelf.change, name, None, None)
        for name in ("one", "both", "ends"):
            for thing in [*NO_TERMS, Stranger()]:
                refused(self, NoTerm, thing, shelf.change, name, thing, None)
                refused(self, NoTerm, thing, shelf.change, name, ZERO, thing)
            for saying, paper, spot, why in [(ZERO, app(ZERO, ZERO), (), "kind"), (NAT, SUCC, (), "unlike"), (NAT, app(SUCC, K), (1,), "unlike"),
                                             (app(SUCC, K), ZERO, (1,), "unlike")]:
                refused_as(self, PaperError, NoPaper, {"spot": spot, "why": why}, shelf.change, name, saying, paper)
        self.assertEqual(shelf, ahead)
        self.assertEqual(shelf.stale(), ["ends", "ofone"])


class Renewed(Checked):
    def test_by_their_own_papers_and_terms(self):
        shelf = Shelf()
        shelf.tell(NATS)
        shelf.mean("one", NAT, number(1))
        shelf.mean("two", NAT, app(SUCC, ("name", "one")))
        shelf.settle("a", read("same nat @two @two"), read("self nat @two"))
        ahead = shelf.twin()
        self.assertEqual(shelf.change("one", NAT, ZERO), ["two", "a"])
        refused_as(self, PaperError, Stale, {"found": ["two"]}, shelf.renew, "a")
        self.assertIsNone(shelf.renew("two"))
        self.assertEqual(shelf.stale(), ["a"])
        self.assertIsNone(shelf.renew("a"))
        self.assertEqual(shelf.stale(), [])
        self.check(shelf)
        shelf.change("one", NAT, number(1))
        shelf.renew("two")
        shelf.renew("a")
        self.assertEqual(shelf, ahead)

    def test_by_their_scripts(self):
        shelf = Shelf()
        shelf.tell(NATS)
        shelf.mean("one", NAT, number(1))
        shelf.settle_by("a", NAT, first(
            each(("cut", read("same nat @one nat#0")), ("give", read("self nat nat#0")), ("make", 0, ())), ("make", 1, (number(7),))))
        self.assertEqual(shelf.paper("a"), number(8))
        ahead = shelf.twin()
        shelf.change("one", NAT, ZERO)
        # What was given ahead is as it was until it is settled again.
        self.assertEqual((shelf.paper("a"), shelf.stale()), (number(8), ["a"]))
        shelf.renew("a")
        self.assertEqual(shelf.paper("a"), app(fun(read("same nat @one nat#0"), ZERO), read("self nat nat#0")))
        self.assertEqual(shelf.script("a"), ahead.script("a"))
        self.check(shelf)
        shelf.change("one", NAT, number(1))
        shelf.renew("a")
        self.assertEqual(shelf, ahead)

    def test_a_thing(self):
        shelf = Shelf()
        shelf.mean("a", ("kind", 1), K)
        shelf.mean("b", ("kind", 1), ("name", "a"))
        shelf.tell(("thing", "t", 0, (("name", "b"),), ()))
        shelf.tell(NONE)
        ahead = shelf.twin()
        self.assertEqual(shelf.change("a", ("kind", 2), ("kind", 1)), ["b", "t"])
        refused_as(self, PaperError, Stale, {"found": ["b"]}, shelf.renew, "t")
        refused_as(self, PaperError, NoPaper, {"spot": (), "why": "unlike"}, shelf.renew, "b")
        shelf.change("b", ("kind", 2), ("name", "a"))
        self.assertIsNone(shelf.renew("t"))
        self.check(shelf)
        shelf.change("b", every(("kind", 1), ("kind", 1)), fun(("kind", 1), A))
        refused_as(self, PaperError, Unsound, {"row": 4, "where": ("bound", 0), "spot": (), "why": "kind"}, shelf.renew, "t")
        self.assertEqual(shelf.stale(), ["t"])
        shelf.change("a", ("kind", 1), K)
        shelf.change("b", ("kind", 1), ("name", "a"))
        shelf.renew("t")
        self.assertEqual(shelf, ahead)

    def test_what_is_refused_stays_stale(self):
        shelf = development()
        shelf.change("plus", PLUS[2], fun(NAT, fun(NAT, ZERO)))
        ahead = shelf.twin()
        with self.assertRaises(NoFit) as caught:
            shelf.renew("ends")
        self.assertEqual(caught.exception.found, ("give", read("self nat (nat#1 x1)", 3)))
        self.assertEqual((shelf, shelf.stale()), (ahead, ["ends", "ofone"]))
        shelf.change("plus", every(NAT, NAT), fun(NAT, A))
        with self.assertRaises(NoPaper) as caught:
            shelf.renew("ends")
        self.assertEqual((caught.exception.spot, caught.exception.why), ((1, 1, 0), "all"))
        self.assertEqual(shelf.stale(), ["ends", "ofone"])
        shelf.change("plus", PLUS[2], PLUS[3])
        shelf.renew("ends")
        shelf.renew("ofone")
        self.assertEqual(shelf, development())

    def test_what_is_refused_as_running_is(self):
        shelf = Shelf()
        shelf.tell(NATS)
        shelf.mean("a", K, NAT)
        shelf.settle_by("b", ("name", "a"), ("seek", 1))
        shelf.settle_by("c", K, then(attempt(("give", ("name", "a")))))
        shelf.settle_by("d", ("name", "a"), attempt(("make", 0, ())))
        shelf.tell(NONE)
        shelf.change("a", ("kind", 2), ("kind", 1))
        refused_as(self, NoneLeft, NoneGoes, {"found": ("seek", 1)}, shelf.renew, "b")
        is_open(self, [0], shelf.renew, "c")
        is_open(self, [0], shelf.renew, "d")
        self.assertEqual(shelf.stale(), ["b", "c", "d"])
        self.check(shelf)

    def test_refused_in_order(self):
        shelf = development()
        for name in shelf.names():
            refused(self, NoFit, name, shelf.renew, name)
        shelf.change("plus", PLUS[2], OTHER)
        shelf.change("one", NAT, ZERO)
        refused_as(self, PaperError, Stale, {"found": ["ends"]}, shelf.renew, "ofone")
        refused(self, NoFit, "one", shelf.renew, "one")
        # The saying isn't settled by the same paper any more.
        refused_as(self, PaperError, NoPaper, {"spot": (), "why": "unlike"}, shelf.renew, "both")

    def test_all_stale_rows_on_which_it_leans(self):
        shelf = Shelf()
        shelf.mean("a", ("kind", 1), K)
        for name in "bcd":
            shelf.mean(name, ("kind", 1), ("name", "a"))
        shelf.settle_by("e", ("kind", 1), then(attempt(("give", every(("name", "d"), ZERO))), ("give", every(("name", "b"), ("name", "a")))))
        shelf.change("a", ("kind", 1), K)
        self.assertEqual(shelf.stale(), ["b", "c", "d", "e"])
        refused_as(self, PaperError, Stale, {"found": ["b", "d"]}, shelf.renew, "e")
        shelf.renew("b")
        refused_as(self, PaperError, Stale, {"found": ["d"]}, shelf.renew, "e")
        shelf.renew("d")
        shelf.renew("e")
        self.assertEqual(shelf.stale(), ["c"])

    def test_another_paper_may_lean_on_others(self):
        shelf = Shelf()
        shelf.tell(NATS)
        shelf.mean("a", NAT, ZERO)
        shelf.mean("b", NAT, ZERO)
        shelf.settle_by("c", NAT, first(each(("use", read("fun x0 : same nat @a nat#0 . nat#0"), (None,)), ("give", read("self nat nat#0"))),
                                        ("give", ("name", "b"))))
        self.assertEqual(shelf.paper("c")[0], "app")
        shelf.change("a", NAT, number(1))
        shelf.renew("c")
        self.assertEqual((shelf.paper("c"), shelf.leans("c")), (("name", "b"), ["nat", "a", "b"]))


class ByChance(Checked):
    def test_changed_and_changed_back(self):
        chance = random.Random(107)
        for _ in range(25):
            shelf = self.shelf(chance)
            name = chance.choice([name for name in shelf.names() if shelf.ground().told(name)[0] != "thing"])
            ahead, saying, paper = shelf.twin(), shelf.saying(name), shelf.paper(name)
            told = shelf.change(name, *chance.choice([(NAT, number(5)), (K, NAT), (every(NAT, NAT), fun(NAT, A)), (saying, paper)]))
            self.assertEqual(told, ahead.above(name))
            self.assertEqual(shelf.stale(), told)
            self.check(shelf)
            for one in told:
                try:
                    shelf.renew(one)
                except (PaperError, NoneLeft):
                    self.assertIn(one, shelf.stale())
            self.check(shelf)
            shelf.change(name, saying, paper)
            for one in told:
                shelf.renew(one)
            if ahead.script(name) is not None:
                self.assertNotEqual(shelf, ahead)
                ahead.set_paper(name, paper)
            self.assertEqual(shelf, ahead)
            self.check(shelf)

    def shelf(self, chance):
        """A shelf of rows that lean on some of those ahead."""
        shelf = Shelf()
        shelf.tell(NATS)
        for number_of_row in range(10):
            name = "r" + chr(97 + number_of_row)
            numbers = [ZERO, *[("name", one) for one in shelf.names() if shelf.saying(one) == NAT]]
            one, other = chance.choice(numbers), chance.choice(numbers)
            word = chance.choice(["mean", "settle", "by", "same"])
            if word == "mean":
                shelf.mean(name, NAT, app(SUCC, one))
            elif word == "settle":
                shelf.settle(name, NAT, app(fun(NAT, app(SUCC, other)), one))
            elif word == "by":
                shelf.settle_by(name, NAT, then(("make", 1, (None,)), ("give", one)))
            else:
                shelf.settle_by(name, ("same", NAT, one, one), ("give", ("self", NAT, one)))
        return shelf

    def test_each_thing_done_leaves_the_ground_sound(self):
        chance = random.Random(108)
        for _ in range(6):
            shelf = self.shelf(chance)
            for _ in range(25):
                name, other = chance.choice(shelf.names()), chance.choice([*shelf.names(), "za", "zb", "zc"])
                deed = chance.choice([
                    lambda: shelf.change(name, NAT, chance.choice([ZERO, ("name", other)])), lambda: shelf.renew(name), lambda: shelf.out(name),
                    lambda: shelf.rename(name, other), lambda: shelf.mean(other, NAT, ("name", name)), lambda: shelf.renew(name)])
                ahead = shelf.twin()
                try:
                    deed()
                except (PaperError, NoneLeft):
                    self.assertEqual(shelf, ahead)
                self.assertIsNone(unsound(shelf.ground()))
            self.check(shelf)


class Inward(Checked):
    def test_grounds_ahead(self):
        shelf = development()
        for number_of_row, name in enumerate(shelf.names()):
            self.assertEqual(shelf.ground_ahead(name), Ground(shelf.ground().rows()[:number_of_row]))
        shelf.change("plus", PLUS[2], OTHER)
        self.assertEqual(shelf.ground_ahead("both").names(), ["nat", "plus", "one", "list"])
        self.assertEqual(shelf.ground_ahead("ofone").names(), ["nat", "plus", "one"])

    def test_meanings(self):
        shelf = development()
        self.assertEqual([shelf.is_meaning(name) for name in shelf.names()], [False, True, True, False, False, False, False])
        self.assertIs(shelf.is_meaning("plus"), True)
        self.assertIs(shelf.is_meaning("nat"), False)

    def test_a_paper_is_set(self):
        shelf = development()
        self.assertIsNone(shelf.set_paper("ends", ZERO))
        self.assertEqual((shelf.paper("ends"), shelf.script("ends"), shelf.saying("ends"), shelf.stale()), (ZERO, None, read(ENDS), []))
        self.assertEqual(shelf.leans("ends"), ["nat", "plus"])
        self.assertEqual(shelf.ground(), development().ground())
        shelf.change("one", NAT, ZERO)
        shelf.set_paper("ofone", K)
        self.assertEqual((shelf.paper("ofone"), shelf.stale()), (K, ["ofone", "both"]))

    def test_a_paper_is_refused_in_order(self):
        shelf = development()
        for name in ("plus", "one"):
            refused(self, NoFit, name, shelf.set_paper, name, None)
        for thing in [*NO_TERMS, Stranger()]:
            refused(self, NoTerm, thing, shelf.set_paper, "both", thing)
        self.assertEqual(shelf, development())


class Twins(Checked):
    def test_each_goes_its_own_way(self):
        shelf = development()
        other = shelf.twin()
        self.assertIsInstance(other, Shelf)
        self.assertEqual((other, seen(other)), (shelf, seen(shelf)))
        other.rename("one", "two")
        self.assertEqual(seen(shelf), seen(development()))
        shelf.out("both")
        self.assertEqual(len(other), 7)
        other = shelf.twin()
        shelf.change("plus", PLUS[2], OTHER)
        self.assertEqual((other.stale(), shelf.twin().stale()), ([], ["ends", "ofone"]))
        other.mean("more", NAT, ZERO)
        other.set_paper("ends", ZERO)
        self.assertEqual((len(shelf), shelf.script("ends")), (6, ENDS_BY))

    def test_equal(self):
        self.assertTrue(Shelf() == Shelf())
        self.assertTrue(development() == development())
        self.assertFalse(development() != development())
        for deed in [lambda shelf: shelf.out("both"), lambda shelf: shelf.rename("list", "row"), lambda shelf: shelf.change("one", NAT, ZERO),
                     lambda shelf: shelf.change("one", NAT, number(1)), lambda shelf: shelf.set_paper("ends", shelf.paper("ends")),
                     lambda shelf: shelf.set_paper("both", read("self nat (nat#1 nat#0)")), lambda shelf: shelf.tell(NONE),
                     lambda shelf: (shelf.out("both"), shelf.out("list"), shelf.settle("both", *BOTH), shelf.tell(LIST))]:
            shelf = development()
            deed(shelf)
            self.assertFalse(shelf == development())
            self.assertTrue(shelf == shelf.twin())

    def test_to_nothing_else(self):
        for shelf in (Shelf(), development()):
            for thing in [*NOTHINGS, 0, 7, [], shelf.ground(), shelf.names()]:
                self.assertIs(shelf == thing, False)
            self.assertIs(shelf.__eq__(Stranger()), False)

    def test_twenty_four_rows(self):
        self.assertEqual(full().twin(), full())


BOTH = (read("same nat @one (nat#1 nat#0)"), read("self nat @one"))


if __name__ == "__main__":
    unittest.main()
