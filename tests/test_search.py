"""Points 94 and 95: search."""

import random
import unittest
from kernelpapers.errors import NoGround, NoNumber, NoPaper, NoRoom, NoTerm, PaperError, Unsound
from kernelpapers.grounds import Ground
from kernelpapers.kernel import saying_of, settles
from kernelpapers.search import search
from kernelpapers.steps import worked
from kernelpapers.texts import read, read_ground
from kernelpapers.worths import saying_by_worths
import plain_search
from goods import GROUND, ROWS, Goods
from samples import (A, B, C, K, NAT, NATS, NO_GROUNDS, NO_ROOMS, NO_TERMS, NO_WHOLES, SUCC, ZERO, Stranger, app, at, every, fun, refused,
                     refused_as)
from test_deeds import terms
from test_handed import spoil

LETTERS = "abcdefg"
PLAIN = read_ground("\n".join([f"thing {letter} 0" for letter in LETTERS]))
# A thing that is made of others, and pairs.
MADE = read_ground("""thing a 0
thing b 0
thing c 0
maker
arg a
arg b
maker
arg a -> c
thing d 0
maker
thing pair 0
bound *0
bound *0
maker
arg x0
arg x1
thing exists 0
bound *0
bound x0 -> *0
maker
arg x0
arg x1 x2
thing has 0
bound *0
maker
arg x0 -> d
mean m : *0 = pair a b
mean n : *0 = a -> b
hold h : *0""")


class Found(unittest.TestCase):
    def check(self, ground, room, saying, depth, paper):
        end = worked(ground, saying)
        around = plain_search.worked_room(ground, room)
        self.assertTrue(plain_search.is_paper(ground, around, end, depth, paper), paper)
        self.assertTrue(settles(ground, room, paper, saying))
        self.assertEqual(saying_by_worths(ground, room, paper), end)

    def from_depth(self, ground, room, saying, least, paper=None):
        """There is a paper (this one, where it is told) of each depth from the least one on, and none of lesser ones."""
        around = terms(room)
        goal = read(saying, len(around))
        for depth in range(7):
            told = search(ground, around, goal, depth)
            if least is None or depth < least:
                self.assertIsNone(told, (room, saying, depth))
                continue
            self.assertIsNotNone(told, (room, saying, depth))
            self.check(ground, around, goal, depth, told)
            if depth == least and paper is not None:
                self.assertEqual(told, read(paper, len(around)))


class Places(Found):
    def test_a_place_of_the_saying_itself(self):
        self.from_depth(PLAIN, ["a"], "a", 1, "x0")
        self.from_depth(PLAIN, ["a", "b"], "a", 1, "x0")
        self.from_depth(PLAIN, ["a", "b"], "b", 1, "x1")
        self.from_depth(PLAIN, ["a"], "b", None)
        self.from_depth(PLAIN, [], "a", None)
        self.from_depth(PLAIN, ["*0", "x0"], "x0", 1, "x1")
        self.from_depth(PLAIN, ["*0", "x0"], "*0", 1, "x0")
        self.from_depth(PLAIN, ["a -> b"], "a -> b", 1, "x0")
        self.from_depth(PLAIN, ["all x0 : a . same a x0 x0"], "all x0 : a . same a x0 x0", 1, "x0")

    def test_what_is_worked_out(self):
        self.from_depth(MADE, ["@m"], "pair a b", 1, "x0")
        self.from_depth(MADE, ["pair a b"], "@m", 1, "x0")
        self.from_depth(MADE, ["@n", "a"], "b", 2, "x0 x1")
        self.from_depth(MADE, ["b"], "@n", 2, "fun x1 : a . x0")
        self.from_depth(MADE, ["@n -> (fun x0 : *0 . x0) b", "b"], "b", 1)
        self.from_depth(MADE, ["@n -> (fun x0 : *0 . d) b", "b"], "d", 1)

    def test_given_papers(self):
        room = ["a", "a -> b", "b -> c", "c -> d", "d -> e", "e -> f", "f -> g"]
        for number, letter in enumerate(LETTERS):
            self.from_depth(PLAIN, room, letter, number + 1 if number < 6 else None)
        self.from_depth(PLAIN, room[:4], "d", 4, "x3 (x2 (x1 x0))")
        self.from_depth(PLAIN, ["a", "b", "a -> b -> c"], "c", 2, "x2 x0 x1")
        self.from_depth(PLAIN, ["a", "b", "a -> b -> c"], "b -> c", 2, "x2 x0")
        # The depth of each is one less, whichever it is.
        self.from_depth(PLAIN, ["a", "a -> b", "b -> c", "a -> c -> d"], "d", 4, "x3 x0 (x2 (x1 x0))")
        self.from_depth(PLAIN, ["a", "a -> b", "b -> c", "c -> a -> d"], "d", 4, "x3 (x2 (x1 x0)) x0")
        self.from_depth(PLAIN, ["a", "a -> b -> c"], "c", None)

    def test_binders_that_are_meant_by_what_is_behind(self):
        room = ["a", "a -> *0", "all x2 : a . x1 x2"]
        self.from_depth(PLAIN, room, "x1 x0", None)
        self.from_depth(PLAIN, [*room, "x1 x0"], "x1 x0", 1, "x3")
        self.from_depth(PLAIN, ["a", "a -> *0", "b -> all x2 : a . x1 x2", "b"], "all x2 : a . x1 x2", 2, "x2 x3")
        self.from_depth(PLAIN, ["a", "a -> *0", "b -> all x2 : a . x1 x2", "b"], "x1 x0", None)
        # Meant by a saying behind it alone.
        self.from_depth(PLAIN, ["a", "all x1 : a . same a x1 x0 -> b", "same a x0 x0"], "b", None)
        self.from_depth(PLAIN, ["a", "a -> *0", "all x2 : a . (x1 x2 -> b) -> c", "b"], "c", None)

    def test_a_saying_that_is_all_of_something(self):
        self.from_depth(PLAIN, [], "a -> a", 2, "fun x0 : a . x0")
        self.from_depth(PLAIN, [], "all x0 : *0 . x0 -> x0", 3, "fun x0 : *0 . fun x1 : x0 . x1")
        self.from_depth(PLAIN, [], "a -> b -> c -> d -> e -> b", 6)
        self.from_depth(PLAIN, [], "a -> b -> c -> d -> e -> f -> b", None)
        self.from_depth(PLAIN, [], "(a -> b) -> a -> b", 2, "fun x0 : a -> b . x0")
        self.from_depth(PLAIN, [], "a -> (a -> b) -> b", 4, "fun x0 : a . fun x1 : a -> b . x1 x0")
        self.from_depth(PLAIN, ["((a -> b) -> c) -> d"], "((a -> b) -> c) -> d", 1)
        self.from_depth(PLAIN, ["b", "(a -> b) -> c"], "c", 3, "x1 (fun x2 : a . x0)")
        self.from_depth(PLAIN, ["(a -> a) -> b"], "b", 3, "x0 (fun x1 : a . x1)")
        self.from_depth(PLAIN, [], "((a -> b) -> c) -> b -> c", 5, "fun x0 : (a -> b) -> c . fun x1 : b . x0 (fun x2 : a . x1)")
        self.from_depth(PLAIN, ["(a -> b) -> a"], "(((a -> b) -> a) -> a -> b) -> b", 5,
                        "fun x1 : ((a -> b) -> a) -> a -> b . x1 x0 (x0 (x1 x0))")
        self.from_depth(PLAIN, [], "((((a -> b) -> a) -> a) -> b) -> b", None)
        self.from_depth(PLAIN, [], "((a -> b) -> a) -> a", None)

    def test_what_stands_behind_binders(self):
        self.from_depth(PLAIN, [], "all x0 : *0 . all x1 : x0 -> *0 . all x2 : x0 . x1 x2 -> x1 x2", 5)
        self.from_depth(PLAIN, ["*0", "x0 -> *0", "all x2 : x0 . x1 x2"], "all x2 : x0 . x1 x2", 1)
        self.from_depth(PLAIN, ["*0", "x0 -> *0", "b -> all x2 : x0 . x1 x2"], "b -> all x2 : x0 . x1 x2", 1)

    def test_the_left_out_depth_is_three(self):
        around = terms(["a", "a -> b", "b -> c", "c -> d"])
        self.assertIsNotNone(search(PLAIN, around, ("thing", "c")))
        self.assertIsNone(search(PLAIN, around, ("thing", "d")))
        self.assertIsNotNone(search(depth=4, saying=("thing", "d"), room=around, ground=PLAIN))
        self.assertEqual(search(PLAIN, tuple(around), ("thing", "b")), search(PLAIN, around, ("thing", "b")))

    def test_twelve_in_the_room_and_more(self):
        self.from_depth(PLAIN, ["a"] * 11 + ["b"], "c -> d -> e -> b", 4, "fun x12 : c . fun x13 : d . fun x14 : e . x11")
        self.from_depth(PLAIN, ["b"] + ["a"] * 11, "c -> d -> e -> f -> g -> b", 6)


class Makers(Found):
    def test_makers(self):
        self.from_depth(GROUND, [], "nat", 1, "nat#0")
        self.from_depth(GROUND, [], "bool", 1)
        self.from_depth(GROUND, ["none"], "none", 1, "x0")
        self.from_depth(GROUND, [], "none", None)
        self.from_depth(GROUND, [], "*0", None)
        self.from_depth(GROUND, [], "nat -> nat", 2)
        self.from_depth(MADE, [], "d", 1, "d#0")
        self.from_depth(MADE, [], "c", None)
        self.from_depth(MADE, ["a", "b"], "c", 2, "c#0 x0 x1")
        self.from_depth(MADE, ["b"], "c", 4, "c#1 (fun x1 : a . c#0 x1 x0)")
        self.from_depth(MADE, ["a -> b", "a"], "c", 3, "c#0 x1 (x0 x1)")
        # A maker that still waits is no thing given its bounds.
        self.from_depth(MADE, ["a -> b", "a"], "b -> c", 3)
        self.from_depth(MADE, ["(a -> c) -> b"], "c", None)

    def test_makers_given_bounds(self):
        self.from_depth(GROUND, ["*0"], "list x0", 1, "list#0 x0")
        self.from_depth(GROUND, [], "list none", 1, "list#0 none")
        self.from_depth(MADE, ["a", "b"], "pair a b", 2, "pair#0 a b x0 x1")
        self.from_depth(MADE, ["a", "b"], "@m", 2, "pair#0 a b x0 x1")
        self.from_depth(MADE, ["a", "b"], "pair @n (pair b (pair a a))", 4, "pair#0 (a -> b) (pair b (pair a a)) (fun x2 : a . x1) "
                        "(pair#0 b (pair a a) x1 (pair#0 a a x0 x0))")
        self.from_depth(MADE, ["a"], "pair a b", None)
        self.from_depth(MADE, ["b"], "has b", 3, "has#0 b (fun x1 : b . d#0)")
        self.from_depth(GROUND, ["nat -> *0"], "tree nat x0", None)

    def test_makers_whose_arguments_lean_on_others(self):
        # It is meant by what is behind, so it isn't found; but once worked out here it isn't.
        self.from_depth(MADE, ["a", "a -> *0", "x1 x0"], "exists a x1", None)
        self.from_depth(MADE, ["a", "b"], "exists a (fun x2 : a . b)", 2, "exists#0 a (fun x2 : a . b) x0 x1")

    def test_things_given_too_few(self):
        self.from_depth(MADE, ["*0 -> *0", "x0 (pair a b)"], "x0 (pair a b)", 1, "x1")

    def test_what_no_maker_tells(self):
        self.from_depth(GROUND, ["nat"], "same nat x0 x0", None)
        self.from_depth(GROUND, ["nat", "same nat x0 x0"], "same nat x0 x0", 1, "x1")
        self.from_depth(MADE, ["@h"], "@h", 1, "x0")
        self.from_depth(MADE, [], "@h", None)


class ByChance(Found):
    """Held against a plain search, in small grounds."""

    def saying(self, chance, deep):
        if deep == 0 or chance.random() < 0.35:
            return ("thing", chance.choice("abcd"))
        return every(self.saying(chance, deep - 1), self.saying(chance, deep - 1))

    def test_arrows(self):
        chance = random.Random(94)
        seen = {True: 0, False: 0}
        for _ in range(250):
            room = [self.saying(chance, 3) for _ in range(chance.randrange(1, 6))]
            saying = self.saying(chance, 2)
            for depth in range(5):
                told = search(PLAIN, room, saying, depth)
                self.assertEqual(told is not None, plain_search.there_is(PLAIN, room, saying, depth), (room, saying, depth))
                if told is not None:
                    self.check(PLAIN, room, saying, depth, told)
                seen[told is not None] += 1
        self.assertTrue(min(seen.values()) > 100, seen)

    def test_things_with_makers(self):
        chance = random.Random(95)
        seen = {True: 0, False: 0}
        for _ in range(120):
            room = [self.saying(chance, 2) for _ in range(chance.randrange(4))]
            one, other = self.saying(chance, 1), self.saying(chance, 1)
            saying = chance.choice([("thing", "c"), app(("thing", "pair"), one, other), app(("thing", "has"), one),
                                    every(one, app(("thing", "pair"), one, other)),
                                    app(("thing", "exists"), one, fun(one, other))])
            end = worked(MADE, saying)
            for depth in range(5):
                told = search(MADE, room, saying, depth)
                self.assertEqual(told is not None, plain_search.there_is(MADE, room, end, depth), (room, saying, depth))
                if told is not None:
                    self.check(MADE, room, saying, depth, told)
                seen[told is not None] += 1
        self.assertTrue(min(seen.values()) > 50, seen)

    def test_good_rooms(self):
        for room, _, saying in Goods(96).many(60, 2):
            for depth in range(4):
                told = search(GROUND, room, saying, depth)
                around = plain_search.worked_room(GROUND, room)
                self.assertEqual(told is not None, plain_search.there_is(GROUND, around, saying, depth), (room, saying, depth))
                if told is not None:
                    self.check(GROUND, room, saying, depth, told)

    def test_large_rooms_and_depth_six(self):
        # A naive search would go through far too many.
        chance = random.Random(97)
        for _ in range(30):
            room = [self.saying(chance, 3) for _ in range(12)]
            saying = self.saying(chance, 2)
            told = search(PLAIN, room, saying, 6)
            if told is not None:
                self.check(PLAIN, room, saying, 6, told)
        names = "abcdefg"
        room = [read(f"(({one} -> b) -> a) -> ({other} -> a) -> a") for one, other in zip(names, names[3:] + names)]
        self.assertIsNone(search(PLAIN, room, ("thing", "c"), 6))
        self.assertIsNone(search(PLAIN, room[2:], ("thing", "a"), 6))


class Refused(unittest.TestCase):
    def test_each_kind_in_order(self):
        for thing in [*NO_GROUNDS, Stranger()]:
            refused(self, NoGround, thing, search, thing, None, None, None)
        for thing in [*NO_ROOMS, Stranger()]:
            refused(self, NoRoom, thing, search, GROUND, thing, None, None)
        for thing in [*NO_TERMS, Stranger()]:
            refused(self, NoTerm, thing, search, GROUND, [ZERO], thing, None)
        for thing in [*NO_WHOLES, 7, -1, 10 ** 29, Stranger()]:
            refused(self, NoNumber, thing, search, Ground([("hold", "a", ZERO)]), [ZERO], ("kind", 5), thing)

    def test_what_is_refused_as_a_work_is(self):
        bad = Ground([NATS, ("hold", "a", ZERO)])
        refused_as(self, PaperError, Unsound, {"row": 1, "where": ("saying",), "spot": (), "why": "kind"}, search, bad, [ZERO], ("kind", 5), 0)
        for room in ([ZERO], (K, ZERO), [("kind", 5)]):
            refused(self, NoRoom, room, search, GROUND, room, ("kind", 5), 6)
        for depth in (0, 6):
            refused_as(self, PaperError, NoPaper, {"spot": (), "why": "kind"}, search, GROUND, [], ZERO, depth)
            refused_as(self, PaperError, NoPaper, {"spot": (1,), "why": "unlike"}, search, GROUND, [], app(SUCC, K), depth)
            refused_as(self, PaperError, NoPaper, {"spot": (), "why": "height"}, search, GROUND, [], ("kind", 5), depth)

    def test_what_is_handed_in_stays(self):
        room = [NAT, every(NAT, K)]
        told = search(GROUND, room, app(A, B), 6)
        self.assertIsNone(told)
        self.assertEqual(room, [NAT, every(NAT, K)])
        self.assertEqual(search(GROUND, room, NAT, 3), search(Ground(ROWS), list(room), NAT, 3))


if __name__ == "__main__":
    unittest.main()
