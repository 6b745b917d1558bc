"""Points 101 to 103 and 106: what is put on a shelf, what leans on what, and what is taken out."""

import unittest
from kernelpapers.errors import (Doubled, Leant, NoDeed, NoFit, NoGround, NoName, NoneGoes, NoneLeft, NoPaper, NoRow, NoTerm, NotOnShelf,
                                 NotThere, Open, PaperError, Stale, Unsound)
from kernelpapers.grounds import Ground
from kernelpapers.kernel import saying_of, settles, unsound
from kernelpapers.shelf import Shelf
from kernelpapers.steps import worked
from kernelpapers.texts import read
from kernelpapers.things import thing_saying
from kernelpapers.worths import saying_by_worths
from goods import BOOL, CODES, IDS, ORDS, PLUS, WIDE, number
from samples import (A, B, C, K, LIST, NAT, NATS, NONE, NO_TERMS, NOTHINGS, SUCC, TREE, ZERO, Stranger, app, at, every, fun, nested,
                     refused, refused_as)
from test_handed import spoil
from test_scripts import NO_SCRIPTS, again, attempt, each, first, then
from test_work import is_open

# Things of every kind that are no name.
NO_NAMES = [*NOTHINGS, 0, 1, (), ("nat",), "self", "Nat", "nat0", "abcdefghi", "nat ", nested("tuple", 60), Stranger()]
ROWS_OF_THINGS = [NATS, NONE, BOOL, LIST, TREE, ORDS, WIDE, CODES]
ENDS = "all x0 : nat . same nat (@plus x0 nat#0) x0"
# The paper of what is told above, as a script, in a ground with numbers and their sum.
TURNED = "put (fun x3 : nat . same nat x3 (@plus x1 nat#0)) x2 (self nat (@plus x1 nat#0))"
ENDS_BY = then(("bring",), each(("split", 0), ("give", read("self nat nat#0", 1)),
                                then(("put", read(TURNED, 3)), ("give", read("self nat (nat#1 x1)", 3)))))


def full(names=24):
    """A shelf of so many rows."""
    shelf = Shelf()
    shelf.tell(NATS)
    for at_name in range(names - 1):
        shelf.mean("m" + chr(97 + at_name), NAT, ZERO)
    return shelf


def development():
    """Numbers, their sum, lists, and sayings that lean on one another."""
    shelf = Shelf()
    shelf.tell(NATS)
    shelf.mean("plus", PLUS[2], PLUS[3])
    shelf.mean("one", NAT, read("nat#1 nat#0"))
    shelf.settle_by("ends", read(ENDS), ENDS_BY)
    shelf.settle("ofone", read("same nat (@plus @one nat#0) @one"), read("@ends @one"))
    shelf.tell(LIST)
    shelf.settle("both", read("same nat @one (nat#1 nat#0)"), read("self nat @one"))
    return shelf


def no_shelf(case, thing, deed, *given):
    """Refused with NotOnShelf of the very thing."""
    with case.assertRaises(NotOnShelf) as caught:
        deed(*given)
    case.assertIs(caught.exception.__class__, NotOnShelf)
    case.assertIs(caught.exception.found, thing)
    case.assertEqual(NotOnShelf.__bases__, (NotThere,))


class Checked(unittest.TestCase):
    def check(self, shelf):
        """Both checkers take all that isn't stale, and the ground is sound."""
        self.assertIs(shelf.good(), True)
        self.assertIsNone(unsound(shelf.ground()))
        for name in shelf.names():
            if name in shelf.stale() or shelf.ground().told(name)[0] == "thing":
                continue
            ground = shelf.ground_ahead(name)
            self.assertTrue(settles(ground, [], shelf.paper(name), shelf.saying(name)))
            self.assertEqual(saying_by_worths(ground, [], shelf.paper(name)), worked(ground, shelf.saying(name)))


class Settled(Checked):
    def test_at_first(self):
        shelf = Shelf()
        self.assertEqual((shelf.names(), shelf.stale(), len(shelf), bool(shelf)), ([], [], 0, False))
        self.assertEqual(shelf.ground(), Ground())
        self.assertIs(shelf.good(), True)

    def test_how_many_rows_there_are(self):
        shelf = Shelf()
        self.assertEqual(shelf.tell(NATS), 1)
        self.assertEqual(shelf.mean("one", NAT, number(1)), 2)
        self.assertEqual(shelf.settle("hold", every(NAT, NAT), fun(NAT, A)), 3)
        self.assertEqual(shelf.settle_by("by", every(NAT, NAT), then(("bring",), ("give", A))), 4)
        self.assertEqual((len(shelf), shelf.names()), (4, ["nat", "one", "hold", "by"]))
        self.check(shelf)

    def test_by_names(self):
        shelf = Shelf()
        self.assertEqual(shelf.tell(row=NATS), 1)
        self.assertEqual(shelf.mean(term=ZERO, saying=NAT, name="a"), 2)
        self.assertEqual(shelf.settle(paper=ZERO, name="b", saying=NAT), 3)
        self.assertEqual(shelf.settle_by(deeds=("give", ZERO), saying=NAT, name="c"), 4)
        self.assertEqual((shelf.saying(name="a"), shelf.paper(name="b"), shelf.script(name="c")), (NAT, ZERO, ("give", ZERO)))
        self.assertEqual((shelf.leans(name="a"), shelf.above(name="nat")), (["nat"], ["a", "b", "c"]))
        self.assertIsNone(shelf.rename(other="d", name="c"))
        self.assertEqual(shelf.change(paper=number(1), saying=NAT, name="a"), [])
        self.assertIsNone(shelf.set_paper(paper=number(2), name="b"))
        self.assertEqual(shelf.ground_ahead(name="a"), Ground([NATS]))
        self.assertIs(shelf.is_meaning(name="a"), True)
        self.assertIsNone(shelf.out(name="d"))

    def test_rows_as_they_stand_in_a_ground(self):
        shelf = Shelf()
        for row in ROWS_OF_THINGS:
            shelf.tell(row)
        shelf.mean("plus", PLUS[2], PLUS[3])
        shelf.settle("one", NAT, number(1))
        self.assertEqual(shelf.ground(), Ground([*ROWS_OF_THINGS, PLUS, ("hold", "one", NAT)]))
        self.check(shelf)

    def test_sayings_are_believed_and_meanings_stand_for_their_terms(self):
        shelf = development()
        shelf.settle("some", NAT, ZERO)
        # Nothing is known of it but its saying.
        refused_as(self, PaperError, NoPaper, {"spot": (), "why": "unlike"}, shelf.settle, "more",
                   read("same nat @some nat#0"), read("self nat nat#0"))
        self.assertEqual(shelf.settle("more", read("same nat @one (nat#1 nat#0)"), read("self nat (nat#1 nat#0)")), 9)

    def test_what_is_told_of_names(self):
        shelf = development()
        self.assertEqual(shelf.names(), ["nat", "plus", "one", "ends", "ofone", "list", "both"])
        self.assertEqual([shelf.saying(name) for name in ("nat", "list", "plus", "one", "ends")],
                         [K, every(K, K), PLUS[2], NAT, read(ENDS)])
        self.assertEqual(shelf.saying("list"), thing_saying(LIST))
        self.assertEqual([shelf.paper(name) for name in ("plus", "one", "ofone", "both")],
                         [PLUS[3], number(1), read("@ends @one"), read("self nat @one")])
        self.assertEqual([shelf.script(name) for name in shelf.names()], [None, None, None, ENDS_BY, None, None, None])
        self.assertEqual(shelf.paper("ends")[:2], ("fun", NAT))
        self.check(shelf)

    def test_papers_of_scripts(self):
        shelf = Shelf()
        shelf.tell(NATS)
        shelf.settle_by("a", every(NAT, NAT), then(("bring",), ("make", 1, (None,)), ("give", A)))
        self.assertEqual(shelf.paper("a"), fun(NAT, app(SUCC, A)))
        shelf.settle_by("b", every(NAT, NAT), ("seek", 1 + 1))
        self.assertEqual(shelf.script("b"), ("seek", 2))
        # The saying is worked out as it is wanted.
        shelf.mean("nums", K, NAT)
        shelf.settle_by("c", ("name", "nums"), first(("bring",), ("make", 0, ())))
        self.assertEqual((shelf.saying("c"), shelf.paper("c")), (("name", "nums"), ZERO))
        self.check(shelf)

    def test_names_that_are_not_there(self):
        shelf = development()
        for thing in [*NO_NAMES, "gone", "zero", "x"]:
            for deed in (shelf.saying, shelf.paper, shelf.script, shelf.leans, shelf.above, shelf.renew, shelf.out, shelf.ground_ahead,
                         shelf.is_meaning):
                no_shelf(self, thing, deed, thing)
            no_shelf(self, thing, shelf.rename, thing, "all")
            no_shelf(self, thing, shelf.change, thing, None, None)
            no_shelf(self, thing, shelf.set_paper, thing, None)
        self.assertEqual(shelf, development())

    def test_the_paper_of_a_thing(self):
        shelf = development()
        for name in ("nat", "list"):
            no_shelf(self, name, shelf.paper, name)
            no_shelf(self, name, shelf.set_paper, name, None)
            self.assertIsNone(shelf.script(name))


class NotSettled(Checked):
    def test_no_rows_of_things(self):
        shelf = full()
        for thing in [*NO_TERMS, PLUS, ("hold", "a", K), ("thing", "nat", 0, ()), ("thing", "nat", 6, (), ()), ["thing", "a", 0, (), ()], Stranger(),
                      ("thing", "all", 0, (), ())]:
            refused(self, NoRow, thing, shelf.tell, thing)

    def test_no_names(self):
        shelf = full()
        for thing in NO_NAMES:
            for deed in (shelf.mean, shelf.settle, shelf.settle_by):
                refused(self, NoName, thing, deed, thing, None, None)

    def test_names_that_are_there(self):
        shelf = full()
        # A thing is told its row; the others their name.
        again_nat = ("thing", "nat", 0, (ZERO,), ())
        refused(self, Doubled, again_nat[1], shelf.tell, again_nat)
        for name in ("nat", "ma", "mw"):
            for deed in (shelf.mean, shelf.settle, shelf.settle_by):
                refused(self, Doubled, name, deed, name, None, None)

    def test_no_terms(self):
        shelf = full()
        for thing in [*NO_TERMS, Stranger()]:
            for deed in (shelf.mean, shelf.settle, shelf.settle_by):
                refused(self, NoTerm, thing, deed, "a", thing, None)
            for deed in (shelf.mean, shelf.settle):
                refused(self, NoTerm, thing, deed, "a", ZERO, thing)

    def test_no_scripts(self):
        shelf = full()
        for thing in NO_SCRIPTS:
            refused(self, NoDeed, thing, shelf.settle_by, "a", ZERO, thing)

    def test_things_that_are_not_sound(self):
        shelf = development()
        for row, where, spot, why in [
                (("thing", "a", 0, (ZERO,), ()), ("bound", 0), (), "kind"), (("thing", "a", 0, (K, B), ()), ("bound", 1), (), "place"),
                (("thing", "a", 0, (), ((NAT,), (every(("thing", "a"), NAT),))), ("maker", 1, 0), (0,), "growing"),
                (("thing", "a", 0, (), ((K,),)), ("maker", 0, 0), (), "height"),
                (("thing", "a", 0, (), ((("thing", "b"),),)), ("maker", 0, 0), (), "name")]:
            refused_as(self, PaperError, Unsound, {"row": 7, "where": where, "spot": spot, "why": why}, shelf.tell, row)
        self.assertEqual(shelf, development())
        refused_as(self, PaperError, Unsound, {"row": 0, "where": ("bound", 0), "spot": (), "why": "name"}, Shelf().tell,
                   ("thing", "a", 0, (NAT,), ()))

    def test_sayings_and_papers_that_fail(self):
        for shelf in (development(), full()):
            ahead = shelf.twin()
            for deed in (shelf.mean, shelf.settle):
                for saying, paper, spot, why in [
                        (ZERO, app(ZERO, ZERO), (), "kind"), (app(SUCC, K), ZERO, (1,), "unlike"), (("kind", 5), K, (), "height"),
                        (A, A, (), "place"), (NAT, NAT, (), "unlike"), (NAT, SUCC, (), "unlike"), (NAT, app(SUCC, NAT), (1,), "unlike"),
                        (NAT, app(ZERO, ZERO), (0,), "all"), (every(NAT, NAT), fun(NAT, B), (1,), "place"), (NAT, ("name", "a"), (), "name")]:
                    refused_as(self, PaperError, NoPaper, {"spot": spot, "why": why}, deed, "a", saying, paper)
            for saying, spot, why in [(ZERO, (), "kind"), (app(SUCC, K), (1,), "unlike"), (A, (), "place")]:
                refused_as(self, PaperError, NoPaper, {"spot": spot, "why": why}, shelf.settle_by, "a", saying, ("bring",))
            self.assertEqual(shelf, ahead)

    def test_scripts_that_are_refused(self):
        for shelf in (development(), full()):
            ahead = shelf.twin()
            for script, found in [(("bring",), ("bring",)), (then(("steps",), ("split", 0)), ("split", 0)), (each(("steps",)), each(("steps",)))]:
                with self.assertRaises(NoFit) as caught:
                    shelf.settle_by("a", NAT, script)
                self.assertEqual(caught.exception.found, found)
            refused_as(self, PaperError, NoPaper, {"spot": (1,), "why": "unlike"}, shelf.settle_by, "a", NAT, ("give", app(SUCC, K)))
            refused_as(self, NoneLeft, NoneGoes, {"found": ("seek", 0)}, shelf.settle_by, "a", NAT, ("seek", 0))
            is_open(self, [0], shelf.settle_by, "a", NAT, ("skip",))
            is_open(self, [1], shelf.settle_by, "a", NAT, ("steps",))
            is_open(self, [3, 2], shelf.settle_by, "a", NAT, each(("cut", NAT), ("steps",), ("skip",)))
            self.assertEqual(shelf, ahead)

    def test_twenty_four_rows(self):
        shelf = full()
        self.assertEqual((len(shelf), len(shelf.ground())), (24, 24))
        for deed, given in [(shelf.tell, (NONE,)), (shelf.mean, ("a", NAT, ZERO)), (shelf.settle, ("a", NAT, ZERO)),
                            (shelf.settle_by, ("a", NAT, ("make", 0, ())))]:
            refused_as(self, PaperError, NoGround, {"found": 25}, deed, *given)
        # For a thing it goes ahead of what isn't sound.
        refused_as(self, PaperError, NoGround, {"found": 25}, shelf.tell, ("thing", "a", 0, (ZERO,), ()))
        self.assertEqual(shelf, full())
        self.check(shelf)
        shelf.out("mc")
        self.assertEqual(shelf.settle("a", NAT, ZERO), 24)

    def test_stale_rows_are_counted_too(self):
        shelf = Shelf()
        shelf.tell(NATS)
        shelf.mean("root", NAT, ZERO)
        for at_name in range(22):
            shelf.mean("m" + chr(97 + at_name), NAT, ("name", "root"))
        self.assertEqual(len(shelf.change("root", NAT, number(1))), 22)
        self.assertEqual((len(shelf), len(shelf.ground())), (24, 2))
        refused_as(self, PaperError, NoGround, {"found": 25}, shelf.mean, "a", NAT, ZERO)
        refused_as(self, PaperError, NoGround, {"found": 25}, shelf.tell, ("thing", "a", 0, (ZERO,), ()))
        shelf.out("ma")
        refused_as(self, PaperError, Unsound, {"row": 23, "where": ("bound", 0), "spot": (), "why": "kind"}, shelf.tell,
                   ("thing", "a", 0, (ZERO,), ()))


class Leaning(Checked):
    def test_a_development(self):
        shelf = development()
        self.assertEqual({name: shelf.leans(name) for name in shelf.names()}, {
            "nat": [], "plus": ["nat"], "one": ["nat"], "ends": ["nat", "plus"], "ofone": ["nat", "plus", "one", "ends"], "list": [],
            "both": ["nat", "one"]})
        self.assertEqual({name: shelf.above(name) for name in shelf.names()}, {
            "nat": ["plus", "one", "ends", "ofone", "both"], "plus": ["ends", "ofone"], "one": ["ofone", "both"], "ends": ["ofone"], "ofone": [],
            "list": [], "both": []})

    def test_each_word_that_has_a_name(self):
        shelf = Shelf()
        shelf.tell(NATS)
        shelf.tell(NONE)
        shelf.mean("a", K, NAT)
        shelf.mean("b", every(K, every(("name", "a"), K)), fun(K, fun(NAT, ("thing", "none"))))
        shelf.mean("c", saying_of(shelf.ground(), [], ("eater", "none", 1)), ("eater", "none", 1))
        shelf.mean("d", every(K, K), fun(K, A))
        self.assertEqual([shelf.leans(name) for name in "abcd"], [["nat"], ["nat", "none", "a"], ["none"], []])
        shelf.tell(("thing", "e", 0, (("name", "a"),), ()))
        shelf.tell(("thing", "f", 0, (), ((("thing", "none"),), (NAT, ("thing", "f")))))
        shelf.tell(("thing", "g", 0, (K,), ((A, app(("thing", "g"), B)),)))
        self.assertEqual([shelf.leans(name) for name in "efg"], [["a"], ["nat", "none"], []])
        self.assertEqual(shelf.above("a"), ["b", "e"])
        self.assertEqual(shelf.above("none"), ["b", "c", "f"])
        self.assertEqual(shelf.above("nat"), ["a", "b", "e", "f"])

    def test_by_a_paper_or_a_script_alone(self):
        shelf = development()
        shelf.settle("paper", NAT, app(("name", "plus"), ZERO, ZERO))
        self.assertEqual(shelf.leans("paper"), ["nat", "plus"])
        shelf.settle_by("script", every(K, K), then(("bring",), first(("give", app(("name", "one"), A)), ("give", A))))
        self.assertEqual(shelf.leans("script"), ["one"])
        self.assertEqual(shelf.above("one"), ["ofone", "both", "script"])

    def test_all_terms_of_scripts(self):
        one, other = ("name", "one"), ("name", "plus")
        for deed in [("give", one), ("use", one, ()), ("use", ZERO, (None, one)), ("make", 0, (None, one)), ("turn", one), ("cut", one), ("put", one)]:
            for script in [attempt(deed), then(attempt(deed), ("skip",)), then(("skip",), attempt(deed)), each(attempt(deed), ("skip",)),
                           each(("skip",), attempt(deed)), first(("skip",), deed), again(deed, 2), again(deed, 0)]:
                shelf = development()
                shelf.settle_by("a", K, then(attempt(then(attempt(("use", other, (other,))), ("bring",))), script, ("give", NAT)))
                self.assertEqual(shelf.leans("a"), ["nat", "plus", "one"], script)

    def test_only_on_rows_ahead(self):
        shelf = Shelf()
        shelf.tell(NATS)
        shelf.settle_by("a", K, first(("give", ("name", "later")), ("give", NAT)))
        self.assertEqual(shelf.leans("a"), ["nat"])
        shelf.mean("later", K, NAT)
        self.assertEqual((shelf.leans("a"), shelf.above("later")), (["nat"], []))
        self.assertIsNone(shelf.out("later"))
        # A row ahead that is called so later is leaned on from then on.
        shelf = Shelf()
        shelf.mean("b", ("kind", 1), K)
        shelf.tell(NATS)
        shelf.settle_by("a", K, first(("give", ("name", "later")), ("give", NAT)))
        self.assertEqual((shelf.leans("a"), shelf.above("b")), (["nat"], []))
        shelf.rename("b", "later")
        self.assertEqual((shelf.leans("a"), shelf.above("later")), (["later", "nat"], ["a"]))

    def test_through_others(self):
        shelf = Shelf()
        shelf.mean("a", ("kind", 1), K)
        shelf.mean("b", ("kind", 1), ("name", "a"))
        shelf.mean("c", ("kind", 1), K)
        shelf.mean("d", ("kind", 1), ("name", "b"))
        shelf.mean("e", ("kind", 1), every(("name", "c"), ("name", "d")))
        self.assertEqual([shelf.above(name) for name in "abcde"], [["b", "d", "e"], ["d", "e"], ["e"], ["e"], []])
        self.assertEqual([shelf.leans(name) for name in "abcde"], [[], ["a"], [], ["b"], ["c", "d"]])


class Out(Checked):
    def test_taken_out(self):
        shelf = development()
        self.assertIsNone(shelf.out("both"))
        self.assertEqual(shelf.names(), ["nat", "plus", "one", "ends", "ofone", "list"])
        shelf.out("list")
        shelf.out("ofone")
        shelf.out("one")
        self.assertEqual(shelf.names(), ["nat", "plus", "ends"])
        self.assertEqual(shelf.mean("one", NAT, ZERO), 4)
        self.check(shelf)

    def test_what_others_lean_on(self):
        shelf = development()
        for name, found in [("nat", ["plus", "one", "ends", "ofone", "both"]), ("plus", ["ends", "ofone"]), ("one", ["ofone", "both"]),
                            ("ends", ["ofone"])]:
            refused_as(self, PaperError, Leant, {"found": found}, shelf.out, name)
        self.assertEqual(shelf, development())
        # Not those that lean on it through others.
        shelf = Shelf()
        for name, term in [("a", K), ("b", ("name", "a")), ("c", ("name", "b"))]:
            shelf.mean(name, ("kind", 1), term)
        refused_as(self, PaperError, Leant, {"found": ["b"]}, shelf.out, "a")

    def test_what_a_stale_row_leans_on(self):
        shelf = development()
        shelf.change("one", NAT, ZERO)
        refused_as(self, PaperError, Leant, {"found": ["ofone", "both"]}, shelf.out, "one")
        shelf.out("both")
        self.assertEqual(shelf.stale(), ["ofone"])
        shelf.out("ofone")
        self.assertEqual((shelf.stale(), shelf.out("one")), ([], None))


class Good(Checked):
    def test_papers_that_are_not(self):
        for name, paper in [("ofone", ZERO), ("ofone", read("@ends nat#0")), ("both", A), ("both", read("@both")), ("ends", K),
                            ("ends", ("name", "ofone")), ("ofone", app(SUCC, K))]:
            shelf = development()
            shelf.set_paper(name, paper)
            self.assertIs(shelf.good(), False, (name, paper))
            shelf.set_paper(name, development().paper(name))
            self.assertIs(shelf.good(), True)

    def test_stale_rows_are_not_looked_at(self):
        shelf = development()
        shelf.change("one", NAT, number(2))
        shelf.set_paper("both", ZERO)
        self.assertIs(shelf.good(), True)
        self.assertEqual((shelf.stale(), shelf.paper("both")), (["ofone", "both"], ZERO))

    def test_shelves_that_are(self):
        for shelf in (Shelf(), development(), full()):
            self.check(shelf)


class Told(unittest.TestCase):
    def test_told_lists_are_the_askers_own(self):
        shelf = development()
        shelf.change("one", NAT, ZERO)
        calls = [shelf.names, shelf.stale, lambda: shelf.leans("ofone"), lambda: shelf.above("nat"), lambda: shelf.ground().rows(),
                 lambda: shelf.change("one", NAT, ZERO)]
        for call in calls:
            ahead, told = call(), call()
            spoil(told)
            self.assertEqual(call(), ahead)
        shelf.change("plus", PLUS[2], PLUS[3])
        for deed, name in [(shelf.out, "nat"), (shelf.renew, "ofone")]:
            with self.assertRaises((Leant, Stale)) as caught:
                deed(name)
            spoil(caught.exception.found)
        self.assertEqual(shelf.stale(), ["ends", "ofone", "both"])
        self.assertEqual(shelf.above("nat"), ["plus", "one", "ends", "ofone", "both"])

    def test_a_ground_that_was_told_stays(self):
        shelf = development()
        ground = shelf.ground()
        shelf.out("both")
        shelf.rename("nat", "num")
        self.assertEqual(len(ground), 7)
        self.assertTrue(ground.has("nat"))


if __name__ == "__main__":
    unittest.main()
