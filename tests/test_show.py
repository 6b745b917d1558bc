"""Points 61 and 63: terms as texts, and read back."""

import random
import unittest
from kernelpapers.errors import NoFit, NoNumber, NoSign, NoTerm
from kernelpapers.terms import free, giving, is_term, size
from kernelpapers.texts import read, show
import plain_texts
from goods import GROUND, Goods
from samples import (A, B, C, K, NAT, NO_TERMS, NO_WHOLES, SUCC, TERMS, ZERO, Maker, Stranger, app, at, by_places, every, fun,
                     refused)
from test_handed import FULL, TALL, deeper

ROOM = tuple(f"r{number}" for number in range(4))
LEFT = every(NAT, K)
SHOWN = every(K, A)
SELF = ("self", NAT, ZERO)
SAME = ("same", NAT, ZERO, ZERO)
PUT = ("put", NAT, SELF, ZERO)


class Shown(unittest.TestCase):
    def tells(self, term, text, names=0):
        self.assertEqual(show(term, names), text)
        self.assertEqual(read(text, names), term)
        self.assertEqual(plain_texts.show(term, names), text)

    def test_single_words(self):
        for term, text in [(K, "*0"), (("kind", 5), "*5"), (NAT, "nat"), (("thing", "x"), "x"), (("thing", "abcdefgh"), "abcdefgh"),
                           (ZERO, "nat#0"), (("maker", "x", 12), "x#12"), (("maker", "at", 10 ** 30 - 1), "at#" + "9" * 30),
                           (("eater", "nat", 2), "nat!2"), (("eater", "nat", 0), "nat!0"), (("eater", "x", 5), "x!5"),
                           (("name", "plus"), "@plus"), (("name", "x"), "@x"), (("thing", "kind"), "kind")]:
            self.tells(term, text)

    def test_places_by_the_names_of_the_room(self):
        self.tells(A, "x0", 1)
        self.tells(A, "x4", 5)
        self.tells(at(4), "x0", 5)
        self.tells(at(99), "x0", 100)
        self.tells(A, "x99", 100)

    def test_binders_have_the_number_of_what_stands_around(self):
        self.tells(fun(NAT, A), "fun x0 : nat . x0")
        self.tells(fun(NAT, fun(A, app(B, A))), "fun x0 : nat . fun x1 : x0 . x0 x1")
        self.tells(fun(NAT, fun(A, app(at(4), B, A))), "fun x3 : nat . fun x4 : x3 . x0 x3 x4", 3)
        self.tells(every(K, every(A, every(B, app(A, B)))), "all x0 : *0 . all x1 : x0 . all x2 : x0 . x2 x1")
        self.tells(fun(fun(K, A), fun(every(B, A), A)), "fun x1 : fun x1 : *0 . x1 . fun x2 : all x2 : x0 . x2 . x2", 1)
        self.tells(fun(K, fun(K, at(101))), "fun x100 : *0 . fun x101 : *0 . x0", 100)

    def test_arrows(self):
        self.tells(every(NAT, NAT), "nat -> nat")
        self.tells(every(NAT, every(NAT, K)), "nat -> nat -> *0")
        self.tells(every(every(NAT, NAT), K), "(nat -> nat) -> *0")
        self.tells(every(SHOWN, K), "(all x0 : *0 . x0) -> *0")
        self.tells(every(fun(NAT, A), K), "(fun x0 : nat . x0) -> *0")
        self.tells(every(app(SUCC, app(SUCC, ZERO)), K), "nat#1 (nat#1 nat#0) -> *0")
        for term, text in [(SELF, "self nat nat#0"), (SAME, "same nat nat#0 nat#0"), (PUT, "put nat (self nat nat#0) nat#0")]:
            self.tells(every(term, K), text + " -> *0")

    def test_an_arrows_binder_is_not_counted(self):
        self.tells(every(NAT, fun(K, A)), "nat -> fun x0 : *0 . x0")
        self.tells(fun(K, every(A, every(NAT, fun(A, at(3))))), "fun x0 : *0 . x0 -> all x1 : nat . fun x2 : x1 . x0")
        self.tells(every(K, every(A, B)), "all x0 : *0 . x0 -> x0")
        self.tells(every(A, app(B, at(3))), "x2 -> x2 x0", 3)
        self.tells(every(NAT, every(every(NAT, C), C)), "nat -> (nat -> x0) -> x0", 1)
        # Another binder within has the place 0 there.
        self.tells(every(NAT, every(K, A)), "nat -> all x0 : *0 . x0")
        self.tells(every(NAT, every(K, B)), "all x0 : nat . *0 -> x0")

    def test_all_that_is_meant_in_a_saying_within(self):
        self.tells(every(K, every(A, NAT)), "all x0 : *0 . x0 -> nat")
        self.tells(every(K, fun(A, NAT)), "all x0 : *0 . fun x1 : x0 . nat")
        self.tells(every(K, ("put", B, at(2), A)), "all x2 : *0 . put x1 x0 x2", 2)

    def test_a_fun_is_never_an_arrow(self):
        self.tells(fun(NAT, K), "fun x0 : nat . *0")

    def test_given(self):
        self.tells(app(A, B), "x1 x0", 2)
        self.tells(app(A, B, C), "x2 x1 x0", 3)
        self.tells(app(A, app(B, C)), "x2 (x1 x0)", 3)
        self.tells(app(A, SELF, fun(NAT, A), LEFT, ZERO), "x0 (self nat nat#0) (fun x1 : nat . x1) (nat -> *0) nat#0", 1)
        self.tells(app(A, SAME, PUT), "x0 (same nat nat#0 nat#0) (put nat (self nat nat#0) nat#0)", 1)

    def test_heads(self):
        self.tells(app(SELF, ZERO), "(self nat nat#0) nat#0")
        self.tells(app(SAME, ZERO, K), "(same nat nat#0 nat#0) nat#0 *0")
        self.tells(app(PUT, ZERO), "(put nat (self nat nat#0) nat#0) nat#0")
        self.tells(app(LEFT, ZERO), "(nat -> *0) nat#0")
        self.tells(app(SHOWN, ZERO), "(all x0 : *0 . x0) nat#0")
        self.tells(app(fun(NAT, A), ZERO), "(fun x0 : nat . x0) nat#0")
        self.tells(app(app(fun(NAT, A), ZERO), app(SUCC, ZERO)), "(fun x0 : nat . x0) nat#0 (nat#1 nat#0)")

    def test_parts_of_same_self_put(self):
        self.tells(("same", app(A, B), LEFT, SELF), "same (x1 x0) (nat -> *0) (self nat nat#0)", 2)
        self.tells(("self", fun(NAT, A), SHOWN), "self (fun x0 : nat . x0) (all x0 : *0 . x0)")
        self.tells(("put", fun(NAT, B), SAME, PUT),
                   "put (fun x1 : nat . x0) (same nat nat#0 nat#0) (put nat (self nat nat#0) nat#0)", 1)

    def test_what_goes_on_as_far_as_it_may(self):
        self.tells(fun(LEFT, LEFT), "fun x0 : nat -> *0 . nat -> *0")
        self.tells(every(fun(K, A), app(A, A)), "all x0 : fun x0 : *0 . x0 . x0 x0")
        self.tells(every(NAT, fun(NAT, every(NAT, SAME))), "nat -> fun x0 : nat . nat -> same nat nat#0 nat#0")

    def test_names_left_out_and_by_name(self):
        self.assertEqual(show(fun(NAT, A)), "fun x0 : nat . x0")
        self.assertEqual(show(names=2, term=A), "x1")


class Refused(unittest.TestCase):
    def test_no_terms(self):
        for thing in [*NO_TERMS, Stranger()]:
            refused(self, NoTerm, thing, show, thing)
            refused(self, NoTerm, thing, show, thing, -1)
            refused(self, NoTerm, thing, show, names="x", term=thing)

    def test_no_numbers(self):
        for thing in [*NO_WHOLES, -1, 101, 10 ** 29, Stranger()]:
            refused(self, NoNumber, thing, show, K, thing)
            # A free place that no room has is told behind.
            refused(self, NoNumber, thing, show, at(100), thing)

    def test_free_places(self):
        for term, names in [(A, 0), (B, 1), (at(100), 100), (fun(A, A), 0), (fun(K, B), 0), (fun(K, app(A, at(3))), 2),
                            (every(NAT, B), 0), (("same", K, NAT, at(7)), 7), (app(at(5), A), 5), (app(A, at(5)), 5)]:
            refused(self, NoFit, term, show, term, names)
        self.assertEqual(show(("same", K, NAT, at(7)), 8), "same *0 nat x0")


class ReadBack(unittest.TestCase):
    def holds(self, term, names):
        text = show(term, names)
        self.assertEqual(text, plain_texts.show(term, names))
        self.assertEqual(read(text, names), term)
        self.assertNotIn("  ", text)
        self.assertNotIn("( ", text)
        self.assertNotIn(" )", text)
        self.assertEqual(text.strip(), text)
        for other in plain_texts.without_brackets(text):
            try:
                self.assertNotEqual(read(other, names), term, (text, other))
            except NoSign:
                pass

    def test_terms_made_by_chance(self):
        maker = Maker(61)
        for number in range(300):
            self.holds(by_places(maker.term(ROOM, 2 + number % 4), ROOM), 4)

    def test_terms_in_wider_rooms(self):
        maker = Maker(63)
        for names in (5, 17, 100):
            for _ in range(20):
                self.holds(by_places(maker.term(ROOM), ROOM), names)

    def test_samples(self):
        for term in TERMS:
            names = free(term)[-1] + 1 if free(term) else 0
            if names <= 100:
                self.holds(term, names)
                self.holds(term, 100)

    def test_good_terms(self):
        for room, term, told in Goods(62).many(40):
            self.holds(term, len(room))
            self.holds(told, len(room))

    def test_large_terms(self):
        self.holds(TALL, 0)
        self.holds(FULL, 1)
        for word, many in [("all", 2), ("fun", 2), ("app", 2), ("same", 3), ("self", 2), ("put", 3)]:
            for deep in (60, 200):
                term = deeper(word, many, deep)
                names = free(term)[-1] + 1
                if names <= 100:
                    self.assertEqual(read(show(term, names), names), term)
        large = giving(FULL, app(SUCC, *[app(SUCC, A)] * 20))
        self.assertEqual(size(large), 199 + 200 * 81)
        self.assertEqual(read(show(large, 1), 1), large)

    def test_a_tower_of_two_hundred_binders(self):
        for word in ("all", "fun"):
            term = app(*[at(number) for number in range(0, 199, 7)])
            for _ in range(199):
                term = (word, K, term)
            self.assertTrue(is_term(term))
            self.assertEqual(read(show(term)), term)
            self.assertEqual(show(term), plain_texts.show(term))


if __name__ == "__main__":
    unittest.main()
