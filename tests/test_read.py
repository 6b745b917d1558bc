"""Points 62 and 63: texts read as terms, and the word with which a text can't be read on."""

import random
import unittest
from kernelpapers.errors import NoNumber, NoSign, NoText, PaperError
from kernelpapers.texts import read, show
from plain_texts import text_with_blanks, words
from samples import (A, B, C, K, NAT, NO_TERMS, NO_WHOLES, SUCC, ZERO, Maker, Stranger, app, at, by_places, every, fun, refused,
                     refused_as)

ROOM = ("ra", "rb", "rc", "rd")
NO_TEXTS = [thing for thing in NO_TERMS if not isinstance(thing, str)]
# Words that no text has; some of them are told as parts of words.
JUNK = ["?", "=", "|", ";", "X0", "x", "x-1", "x00", "x01", "x1000", "*6", "*", "*00", "*01", "*-1", "**0", "@", "@@a", "@all", "@nat#0",
        "@x0", "nat#", "#0", "nat#00", "nat#01", "nat#" + "1" * 31, "nat#-1", "nat#0#0", "nat#a", "nat!", "nat!6", "nat!00", "nat!01",
        "nat!-1", "!0", "nat!0!0", "nat#0!0", "nat!0#0", "Nat", "nat0", "abcdefghi", "abcdefghi#0", "abcdefghi!0", "@abcdefghi",
        "all#0", "fun!0", "self#1", "put!1", "\n", "nat\n", "\nnat", "nat,", "n-t", "->nat", "nat->", "nat:", ".nat", "nat.", "--",
        "- >", "'", '"', "x0#0", "x0!0", "~", "`", "{", "[", "]", "\\"]


def no_sign(case, number, text, names=0):
    refused_as(case, PaperError, NoSign, {"at": number}, read, text, names)


class Read(unittest.TestCase):
    def test_single_words(self):
        for word, term in [("nat", NAT), ("x", ("thing", "x")), ("at", ("thing", "at")), ("abcdefgh", ("thing", "abcdefgh")), ("*0", K),
                           ("*5", ("kind", 5)), ("nat#0", ZERO), ("nat#10", ("maker", "nat", 10)), ("x#7", ("maker", "x", 7)),
                           ("x!0", ("eater", "x", 0)), ("nat!5", ("eater", "nat", 5)), ("@nat", ("name", "nat")), ("@x", ("name", "x")),
                           ("nat#" + "9" * 30, ("maker", "nat", 10 ** 30 - 1)), ("(nat)", NAT), ("((nat))", NAT), ("( ( x ) )", ("thing", "x"))]:
            self.assertEqual(read(word), term)
            self.assertEqual(read(f"  {word}   "), term)

    def test_names_of_the_room(self):
        for names in (1, 2, 5, 100):
            for number in range(names):
                self.assertEqual(read(f"x{number}", names), at(names - 1 - number))
            no_sign(self, 0, f"x{names}", names)
        self.assertEqual(read(names=3, text="x0 x1 x2"), app(C, B, A))

    def test_names_left_out(self):
        self.assertEqual(read("fun x0 : nat . x0"), fun(NAT, A))
        refused_as(self, PaperError, NoSign, {"at": 0}, read, "x0")
        refused_as(self, PaperError, NoSign, {"at": 3}, read, text="fun x0 : x0 . x0")

    def test_binders_of_any_number(self):
        self.assertEqual(read("fun x999 : nat . x999"), fun(NAT, A))
        self.assertEqual(read("fun x10 : nat . fun x9 : x10 . x9 x10"), fun(NAT, fun(A, app(A, B))))
        self.assertEqual(read("all x7 : *0 . x7 -> x7"), every(K, every(A, B)))
        self.assertEqual(read("all x7 : *0 . nat"), every(K, NAT))
        self.assertEqual(read("fun x0 : nat . x0 x1 x2", 3), fun(NAT, app(A, C, B)))

    def test_of_several_of_one_number_the_innermost_is_meant(self):
        self.assertEqual(read("fun x0 : nat . fun x0 : x0 . x0"), fun(NAT, fun(A, A)))
        self.assertEqual(read("fun x0 : nat . fun x1 : x0 . fun x0 : x1 . x0 x1"), fun(NAT, fun(A, fun(A, app(A, B)))))
        self.assertEqual(read("fun x1 : x1 . x1 x0", 2), fun(A, app(A, C)))

    def test_a_binder_stands_around_its_second_term_alone(self):
        no_sign(self, 3, "fun x0 : x0 . x0")
        no_sign(self, 8, "f (fun x0 : nat . x0 x1)")
        no_sign(self, 9, "f (fun x0 : nat . x0) x0")
        self.assertEqual(read("fun x0 : x0 . x0", 1), fun(A, A))
        self.assertEqual(read("(fun x1 : nat . x1) x0", 1), app(fun(NAT, A), A))
        no_sign(self, 8, "(fun x1 : nat . x1) x1", 1)
        no_sign(self, 9, "(all x1 : nat . x1) -> x1", 1)

    def test_arrows(self):
        self.assertEqual(read("nat -> nat"), every(NAT, NAT))
        self.assertEqual(read("x0 -> x0 -> x0", 1), every(A, every(B, C)))
        self.assertEqual(read("(x0 -> x0) -> x0", 1), every(every(A, B), B))
        self.assertEqual(read("f x0 -> f x0", 1), every(app(("thing", "f"), A), app(("thing", "f"), B)))
        self.assertEqual(read("same nat nat#0 nat#0 -> nat"), every(("same", NAT, ZERO, ZERO), NAT))
        self.assertEqual(read("self x0 x1 -> x1", 2), every(("self", B, A), B))
        self.assertEqual(read("nat -> all x0 : *0 . x0"), every(NAT, every(K, A)))
        self.assertEqual(read("nat -> fun x0 : *0 . x0 -> nat"), every(NAT, fun(K, every(A, NAT))))
        self.assertEqual(read("all x0 : nat -> nat . x0 -> nat"), every(every(NAT, NAT), every(A, NAT)))

    def test_a_tower_of_arrows(self):
        self.assertEqual(read("x0 -> " * 119 + "x0", 1), arrows(119))

    def test_given_and_the_words_of_two_and_three(self):
        self.assertEqual(read("nat#1 (nat#1 nat#0)"), app(SUCC, app(SUCC, ZERO)))
        self.assertEqual(read("(f g) h"), read("f g h"))
        self.assertEqual(read("f (g h)"), app(("thing", "f"), app(("thing", "g"), ("thing", "h"))))
        self.assertEqual(read("put (self a b) (same c d e) f"),
                         ("put", ("self", ("thing", "a"), ("thing", "b")), ("same", ("thing", "c"), ("thing", "d"), ("thing", "e")),
                          ("thing", "f")))
        self.assertEqual(read("(self a b) c d"), app(("self", ("thing", "a"), ("thing", "b")), ("thing", "c"), ("thing", "d")))
        self.assertEqual(read("(a -> b) c"), app(every(("thing", "a"), ("thing", "b")), ("thing", "c")))

    def test_brackets_more_than_are_needed(self):
        self.assertEqual(read("((fun x0 : (nat) . ((x0)))) ((nat#1) (nat#0))"), app(fun(NAT, A), app(SUCC, ZERO)))
        self.assertEqual(read("(" * 60 + "nat" + ")" * 60), NAT)
        self.assertEqual(read("(" * 120 + "nat" + ")" * 120), NAT)
        self.assertEqual(read("self (nat) (nat#0)"), ("self", NAT, ZERO))

    def test_four_thousand_signs(self):
        text = "f" + " x0" * 199 + " " * 3400
        self.assertEqual(len(text), 3998)
        self.assertEqual(read(text, 1), app(("thing", "f"), *[A] * 199))


def arrows(many):
    """So many arrows, one behind another, between places of the room's only name."""
    term = at(many)
    for number in reversed(range(many)):
        term = every(at(number), term)
    return term


class NotRead(unittest.TestCase):
    def test_texts_that_are_over_too_soon(self):
        for text in ["", " ", "     ", "all", "fun x0", "all x0 :", "fun x0 : nat", "fun x0 : nat .", "(", "((", "(nat", "nat ->",
                     "same", "same nat", "same nat nat#0", "self", "self nat", "put", "put a", "put a b", "a (", "a (b", "a (b c",
                     "same (a", "all x0 : (nat", "all x0 : nat -> nat", "f (self nat", "fun x0 : fun x1 : nat . x1"]:
            no_sign(self, len(words(text)), text)

    def test_at_the_first_word(self):
        for text in [")", ") nat", ":", ".", "->", "-> nat", ". nat", "x0", "x1 nat", *JUNK[:5], "nat#", "*6"]:
            if text != "x":
                no_sign(self, 0, text)

    def test_behind_what_is_over(self):
        no_sign(self, 1, "nat )")
        no_sign(self, 1, "nat :")
        no_sign(self, 1, "nat .")
        no_sign(self, 3, "(nat))")
        no_sign(self, 3, "(nat) . nat")
        no_sign(self, 3, "(nat) : nat")
        no_sign(self, 3, "self a b c")
        no_sign(self, 3, "self a b (c)")
        no_sign(self, 4, "same a b c d")
        no_sign(self, 4, "put a b c (d)")
        no_sign(self, 6, "fun x0 : nat . nat .")
        no_sign(self, 6, "fun x0 : nat . nat )")

    def test_a_binder_has_a_name_a_colon_and_a_point(self):
        for word in ["all", "fun"]:
            for other in ["nat", "(", ":", ".", "x", "x00", "x01", "x1000", "y0", "*0", "x-1", "xx", "all", "x0:", "x0.", "x0#0"]:
                no_sign(self, 1, f"{word} {other} : nat . nat")
            for other in ["nat", ".", "->", "(", ")", "x0", "::"]:
                no_sign(self, 2, f"{word} x0 {other} nat . nat")
            no_sign(self, 3, f"{word} x0 : : nat . nat")
            no_sign(self, 3, f"{word} x0 : . nat")
            no_sign(self, 4, f"{word} x0 : nat : nat")
            no_sign(self, 4, f"{word} x0 : nat ) nat")
            no_sign(self, 5, f"{word} x0 : nat . . nat")
            no_sign(self, 5, f"{word} x0 : nat . -> nat")

    def test_words_that_can_not_stand_in_a_row(self):
        for word in ["all", "fun", "same", "self", "put"]:
            no_sign(self, 1, f"nat {word} a b c")
            no_sign(self, 1, f"same {word} a b c")
            no_sign(self, 2, f"self nat {word} a b c")
            no_sign(self, 3, f"put (nat {word} a")
        no_sign(self, 1, "()")
        no_sign(self, 2, "f ()")
        no_sign(self, 2, "self nat -> nat")
        no_sign(self, 1, "same -> nat")
        no_sign(self, 2, "nat -> -> nat")
        no_sign(self, 5, "a -> (b) )")

    def test_arrows_behind_what_has_none(self):
        no_sign(self, 5, "fun x0 : nat -> . nat")
        no_sign(self, 2, "nat -> )")
        no_sign(self, 3, "(nat -> ) nat")

    def test_a_line_feed_is_a_sign_as_any_other(self):
        no_sign(self, 0, "\n")
        no_sign(self, 0, "nat\nnat")
        no_sign(self, 1, "nat \n nat")
        no_sign(self, 1, "nat nat\n")
        no_sign(self, 3, "fun x0 : nat\n. nat")

    def test_junk_wherever_a_word_may_stand(self):
        for text in ["f a b", "fun x0 : nat . x0", "same (a b) c d -> e", "put a (b) c", "(a -> b) -> c"]:
            told = words(text)
            for junk in JUNK:
                if junk in ("x", "- >"):
                    continue
                for number in range(len(told) + 1):
                    no_sign(self, number, " ".join([*told[:number], junk, *told[number + 1:]]))

    def test_no_text_of_any_kind(self):
        for thing in [*NO_TEXTS, Stranger(), b"nat"]:
            refused(self, NoText, thing, read, thing)
            refused(self, NoText, thing, read, thing, -1)
            refused(self, NoText, thing, read, names=None, text=thing)

    def test_no_number_of_any_kind(self):
        for thing in [*NO_WHOLES, 101, 10 ** 29, Stranger()]:
            refused(self, NoNumber, thing, read, "nat", thing)
            refused(self, NoNumber, thing, read, ")", thing)


class Prefixes(unittest.TestCase):
    """Of a text that can be read each beginning is one, too, or is over too soon."""

    def holds(self, text, names):
        told = words(text)
        for number in range(len(told)):
            try:
                read(" ".join(told[:number]), names)
            except NoSign as refusal:
                self.assertEqual(refusal.at, number)
            no_sign(self, number, " ".join([*told[:number], "?", *told[number:]]), names)

    def test_beginnings(self):
        maker = Maker(71)
        for number in range(150):
            self.holds(show(by_places(maker.term(ROOM, 3), ROOM), 4), 4)

    def test_the_first_word_that_no_text_goes_on_with(self):
        # Each word put otherwise: refused there or later, or read as something else.
        chance = random.Random(72)
        maker = Maker(73)
        for _ in range(150):
            text = show(by_places(maker.term(ROOM, 3), ROOM), 4)
            told = words(text)
            number = chance.randrange(len(told))
            other = chance.choice(["(", ")", ".", ":", "->", "all", "same", "nat", "x0", "x5"])
            made = [*told[:number], other, *told[number + 1:]]
            try:
                read(" ".join(made), 4)
            except NoSign as refusal:
                self.assertGreaterEqual(refusal.at, number)
                # What stands behind makes no difference.
                no_sign(self, refusal.at, " ".join(made[:refusal.at + 1]), 4)
                if refusal.at < len(made):
                    no_sign(self, refusal.at, " ".join([*made[:refusal.at + 1], "nat", ")"]), 4)


class Blanks(unittest.TestCase):
    def test_as_many_as_wanted(self):
        chance = random.Random(74)
        maker = Maker(75)
        for _ in range(150):
            term = by_places(maker.term(ROOM, 3), ROOM)
            self.assertEqual(read(text_with_blanks(chance, show(term, 4)), 4), term)

    def test_none_where_brackets_part(self):
        self.assertEqual(read("f(g h)k"), read("f (g h) k"))
        self.assertEqual(read("(a)->(b)"), read("a -> b"))
        self.assertEqual(read("fun x0 :(nat). x0"), fun(NAT, A))


if __name__ == "__main__":
    unittest.main()
