"""Point 8, over the whole program, and points 5 to 7 for texts, deeds, works, scripts, searches, shelves and desks."""

import random
import unittest
from copy import deepcopy
from itertools import permutations
from kernelpapers.deeds import done_at, is_deed
from kernelpapers.desk import Desk
from kernelpapers.errors import NoneLeft, NoPaper, NotThere, PaperError
from kernelpapers.grounds import Ground
from kernelpapers.kernel import saying_of, settles, unsound
from kernelpapers.scripts import is_script, otherwise, run
from kernelpapers.search import search
from kernelpapers.shelf import Shelf
from kernelpapers.short import is_short, shorten, shortened, shortenings
from kernelpapers.steps import alike, worked
from kernelpapers.terms import changed, size, spots
from kernelpapers.texts import read, read_ground, show, show_ground
from kernelpapers.work import Work
from kernelpapers.worths import saying_by_worths
from goods import GROUND, LEAVES, ROWS, Goods, NoGood, number
from samples import A, B, K, NAT, NATS, SUCC, ZERO, app, every, fun
from test_handed import FULL, TALL, spoil
from test_scripts import again, attempt, each, first, then
from test_shelf import ENDS, ENDS_BY, development

USE = ("use", ("name", "plus"), (None, None))
REFUSALS = (PaperError, NotThere, NoneLeft)


def checked(ground, term):
    """What both checkers say of a term: its saying, or where it fails and why."""
    told = []
    for checker in (saying_of, saying_by_worths):
        try:
            told.append(checker(ground, [], term))
        except NoPaper as fault:
            told.append((fault.spot, fault.why))
    return told


class Turned(unittest.TestCase):
    """A paper that is turned at any spot is refused, or settles just what both checkers say that it settles."""

    def test_at_each_of_its_spots(self):
        chance = random.Random(8)
        shelf = development()
        shelf.settle_by("sum", read("nat -> nat"), then(("bring",), ("use", ("name", "plus"), (None, ("name", "one"))), ("give", A)))
        taken = refused_ones = 0
        for name in ("plus", "one", "ends", "ofone", "both", "sum"):
            saying, paper = shelf.saying(name), shelf.paper(name)
            for spot in spots(paper):
                for other in [*chance.sample(LEAVES, 4), fun(NAT, A), app(SUCC, A), ("self", NAT, ZERO)]:
                    turned = changed(paper, spot, other)
                    twin = shelf.twin()
                    told = checked(shelf.ground(), turned)
                    self.assertEqual(told[0], told[1])
                    try:
                        twin.settle("turned", saying, turned)
                        taken += 1
                        self.assertEqual(told[0], worked(shelf.ground(), saying))
                        self.assertIs(twin.good(), True)
                    except NoPaper as fault:
                        refused_ones += 1
                        self.assertEqual(twin, shelf)
                        if (fault.spot, fault.why) != ((), "unlike"):
                            self.assertEqual(told[0], (fault.spot, fault.why))
                        else:
                            self.assertNotEqual(told[0], worked(shelf.ground(), saying))
                    other_shelf = shelf.twin()
                    if not shelf.is_meaning(name):
                        other_shelf.set_paper(name, turned)
                        ahead = other_shelf.ground_ahead(name)
                        self.assertIs(other_shelf.good(), settles(ahead, [], turned, saying))
        self.assertTrue(taken > 5 and refused_ones > 500, (taken, refused_ones))


class Settled(unittest.TestCase):
    """Whatever deeds, searches and shortenings came between, what is settled has a paper that both checkers take."""

    def check(self, shelf):
        self.assertIs(shelf.good(), True)
        self.assertIsNone(unsound(shelf.ground()))

    def goal(self, goods):
        try:
            return goods.kind(0, [], 2)
        except NoGood:
            return NAT

    def script(self, goods, room, goal, deep):
        """A script that may close the goal."""
        chance = goods.chance
        paper = []
        try:
            paper = [("give", goods.term(list(room), worked(GROUND, goal), 3))]
        except NoGood:
            pass
        deeds = [("seek", 2), ("seek", 3), ("bring",), ("steps",), USE, ("make", 0, ()), ("make", 1, (None,)), ("split", 0), ("cut", NAT), *paper]
        word = chance.choice(["then", "first", "try", "again", "deed"]) if deep else "deed"
        inner = [self.script(goods, room, goal, deep - 1) for _ in range(3)] if word != "deed" else []
        if word == "then":
            return then(inner[0], first(*inner[1:], ("give", ZERO)))
        if word == "first":
            return first(*inner)
        if word == "try":
            return then(attempt(inner[0]), first(inner[1], ("seek", 3), ("give", A)))
        if word == "again":
            return then(again(inner[0], 2), first(("seek", 3), ("give", ZERO), inner[1]))
        return chance.choice([*deeds, *paper * 3])

    def test_by_chance(self):
        goods = Goods(88)
        shelf = Shelf()
        for row in ROWS:
            if row[0] == "thing":
                shelf.tell(row)
            elif row[0] == "mean":
                shelf.mean(*row[1:])
        shelf.settle("some", NAT, number(2))
        shelf.settle_by("belief", read(ENDS), ENDS_BY)
        self.assertEqual(set(shelf.names()), {row[1] for row in ROWS})
        settled = 0
        for count in range(150):
            goal = goods.chance.choice([NAT, every(NAT, NAT), every(K, every(A, B)), self.goal(goods)])
            script = self.script(goods, [], goal, 2)
            twin = shelf.twin()
            try:
                self.assertEqual(twin.settle_by("more", goal, script), len(shelf) + 1)
            except REFUSALS:
                self.assertEqual(twin, shelf)
                continue
            settled += 1
            self.assertTrue(settles(shelf.ground(), [], twin.paper("more"), goal))
            self.assertEqual(saying_by_worths(shelf.ground(), [], twin.paper("more")), worked(shelf.ground(), goal))
            other = shelf.twin()
            other.settle_by("more", goal, otherwise(script))
            self.assertEqual(other.paper("more"), twin.paper("more"))
            before = size(twin.paper("more"))
            less = shorten(twin, "more")
            self.assertEqual(size(twin.paper("more")), before - less)
            self.assertIs(is_short(shelf.ground(), [], twin.paper("more")), True)
            if count % 10 == 0:
                self.check(twin)
        self.assertGreater(settled, 30)
        self.check(shelf)

    def test_the_empty_thing_is_never_settled(self):
        shelf = development()
        shelf.tell(("thing", "none", 0, (), ()))
        for depth in range(7):
            self.assertIsNone(search(shelf.ground(), [], ("thing", "none"), depth))
        for script in [("seek", 6), ("make", 0, ()), then(("steps",), ("bring",)), ("give", app(("name", "ends"), ZERO)), ("split", 0)]:
            with self.assertRaises(REFUSALS):
                shelf.settle_by("bad", ("thing", "none"), script)

    def test_a_desk_and_a_shelf_tell_the_same(self):
        desk = Desk()
        for line in ["tell thing nat 0 | maker | maker | arg nat", "mean two : nat = nat#1 (nat#1 nat#0)", "goal a : nat -> nat", "do 0 bring",
                     "do 1 use nat#1 ; ?", "do 2 seek 1", "close"]:
            desk.say(line)
        shelf = Shelf()
        shelf.tell(NATS)
        shelf.mean("two", NAT, number(2))
        shelf.settle_by("a", every(NAT, NAT), then(("bring",), ("use", SUCC, (None,)), ("seek", 1)))
        shelf.set_paper("a", shelf.paper("a"))
        self.assertEqual(desk.shelf(), shelf)
        self.assertEqual(desk.say("short a"), str(shorten(shelf, "a")))
        self.assertEqual(desk.shelf(), shelf)


class Undone(unittest.TestCase):
    def test_a_deed_that_is_undone_leaves_the_goals_as_they_were(self):
        goods = Goods(81)
        for room, term, goal in goods.many(30, 3):
            work = Work(GROUND, goal, room)
            for deed in [("bring",), ("give", term), ("split", 0), ("steps",), ("cut", NAT), USE, ("make", 1, (None,))]:
                ahead = [(hole, work.goal(hole)) for hole in work.holes()]
                hole = goods.chance.choice(work.holes())
                try:
                    run(work, hole, attempt(then(deed, attempt(("steps",)))))
                    work.undo(hole)
                except NotThere:
                    pass
                self.assertEqual([(hole, work.goal(hole)) for hole in work.holes()], ahead)

    def test_closed_in_whatever_order(self):
        papers = []
        for order in permutations(range(4)):
            work = Work(GROUND, NAT)
            run(work, 0, then(USE, USE))
            holes = work.holes()
            for at_hole in order:
                work.do(holes[at_hole], ("give", number(at_hole)))
            papers.append(work.paper())
        self.assertEqual(papers, papers[:1] * 24)


class ReadBack(unittest.TestCase):
    def test_what_is_told_anywhere(self):
        goods = Goods(82)
        for room, term, goal in goods.many(30, 3):
            for one in [term, goal, shortened(GROUND, room, term), *[whole for _, _, whole in shortenings(GROUND, room, term)][:5]]:
                self.assertEqual(read(show(one, len(room)), len(room)), one)
        shelf = development()
        self.assertEqual(read_ground(show_ground(shelf.ground())), shelf.ground())


class Bounds(unittest.TestCase):
    """Terms of 400 terms, and of sixty within one another, in each place where a term is handed in."""

    ground = Ground([NATS, ("hold", "full", every(K, K)), ("hold", "deep", every(saying_of(Ground(), [], TALL), K))])

    def test_they_are_taken(self):
        told = saying_of(self.ground, [], TALL)
        goals, paper = done_at(self.ground, [], told, ("give", TALL))
        self.assertEqual((goals, paper([])), ([], TALL))
        work = Work(self.ground, told)
        self.assertEqual(run(work, 0, then(again(("bring",), 5), again(("bring",), 5), attempt(again(("bring",), 5)), ("steps",))), [13])
        self.assertEqual(len(work.goal(13)[0]), 12)
        self.assertTrue(is_deed(("use", FULL, (FULL,) * 8)))
        self.assertTrue(is_script(first(*[("cut", FULL)] * 59)))
        self.assertEqual(shortened(self.ground, [], TALL), TALL)
        shelf = Shelf()
        shelf.mean("tall", told, TALL)
        self.assertEqual(shelf.settle_by("more", told, first(("give", app(FULL, FULL)), ("give", ("name", "tall")))), 2)
        self.assertEqual(shorten(shelf, "more"), 0)
        self.assertIsNone(search(self.ground, [told] * 12, K, 6))
        self.assertEqual(search(self.ground, [told] * 12, told, 6), A)

    def test_a_room_of_twelve_with_binders_around(self):
        room = [K] * 12
        self.assertEqual(search(self.ground, room, every(NAT, every(NAT, NAT)), 3), fun(NAT, fun(NAT, A)))
        self.assertEqual(shortenings(self.ground, room, fun(NAT, fun(NAT, ZERO)))[-1], ((1, 1), "room", fun(NAT, fun(NAT, A))))


class HandedIn(unittest.TestCase):
    """What is handed in stays; what is asked again has an equal answer; what is told may be changed."""

    def calls(self):
        room = [K, A]
        shelf, work = development(), Work(GROUND, every(NAT, NAT), [NAT])
        work.do(0, ("bring",))
        script = then(attempt(USE), first(each(("steps",), ("skip",)), ("seek", 2)))
        return [
            (show, fun(NAT, A), 3), (read, "fun x0 : nat . x0", 0), (show_ground, GROUND), (read_ground, "thing nat 0\nmaker"),
            (is_deed, ["bring"]), (is_deed, ("use", K, (None,))), (lambda *some: done_at(*some)[0], GROUND, room, B, ("cut", NAT)), (Work, GROUND, B, room),
            (Work.holes, work), (Work.goal, work, 1), (Work.filled, work), (Work.deed, work, 0), (Work.left, work, 0), (Work.twin, work), (Work.ground, work),
            (len, work), (is_script, script), (is_script, [script]), (otherwise, script), (search, GROUND, room, B, 2), (Shelf.names, shelf),
            (Shelf.stale, shelf), (Shelf.ground, shelf), (Shelf.saying, shelf, "ends"), (Shelf.paper, shelf, "ends"), (Shelf.script, shelf, "ends"),
            (Shelf.leans, shelf, "ends"), (Shelf.above, shelf, "nat"), (Shelf.good, shelf), (Shelf.ground_ahead, shelf, "ends"), (Shelf.twin, shelf),
            (Shelf.is_meaning, shelf, "ends"), (len, shelf), (shortenings, GROUND, room, app(fun(K, A), NAT)), (is_short, GROUND, room, A),
            (shortened, GROUND, room, app(fun(K, A), NAT))]

    def seen(self, thing):
        if isinstance(thing, Work):
            return thing.holes(), thing.filled(), [thing.goal(hole) for hole in thing.holes()], thing.ground().rows(), len(thing)
        if isinstance(thing, Shelf):
            return thing.names(), thing.stale(), thing.ground().rows(), [thing.script(name) for name in thing.names()]
        if isinstance(thing, Ground):
            return thing.rows()
        return deepcopy(thing)

    def test_they_stay_and_answers_are_equal(self):
        for (call, *some), (_, *alike_some) in zip(self.calls(), self.calls()):
            ahead = [self.seen(thing) for thing in some]
            answer = call(*some)
            self.assertEqual([self.seen(thing) for thing in some], ahead)
            self.assertEqual(call(*some), answer)
            self.assertEqual(call(*alike_some), answer)
            ahead_of_all = self.seen(answer)
            if not isinstance(answer, (Work, Shelf, Ground)):
                spoil(answer)
            self.assertEqual(self.seen(call(*some)), ahead_of_all)
            self.assertEqual([self.seen(thing) for thing in some], ahead)

    def test_what_works_and_shelves_change_is_theirs_alone(self):
        room, ground = [K, A], Ground(ROWS)
        work = Work(ground, B, room)
        script = then(("cut", K), ("steps",))
        run(work, 0, script)
        room.clear()
        self.assertEqual((room, work.goal(3)[0], ground), ([], [K, A], GROUND))
        self.assertTrue(alike(ground, NAT, ("name", "nums")))


if __name__ == "__main__":
    unittest.main()
