"""Points 5 and 7: what was handed in stays, told lists are new ones, and terms of every size are taken."""

import unittest
from copy import deepcopy
from kernelpapers.errors import PaperError
from kernelpapers.terms import (applied, binders_at, changed, free, giving, is_name, is_spot, is_term, is_whole, lowered, opened,
                                part_at, parts, raised, size, spots)
from kernelpapers.things import eater_saying, is_row, maker_saying, owns, thing_saying, ungrown
from samples import A, B, K, LIST, NATS, NO_TERMS, NOTHINGS, TERMS, TREE, app, at, every, fun

TERM = app(fun(A, app(B, at(4))), every(K, ("same", A, B, B)))
CALLS = [
    (is_whole, 3, 0, 5), (is_name, "nat"), (is_term, TERM), (is_spot, (0, 1)), (is_row, TREE),
    (is_term, ["at", 0]), (is_row, ["hold", "a", K]), (is_spot, [0]), (is_name, ["a"]), (is_whole, [1], 0, 5),
    (parts, TERM), (part_at, TERM, (0, 1)), (binders_at, TERM, (0, 1)), (spots, TERM), (changed, TERM, (1, 1), A),
    (size, TERM), (free, TERM), (raised, TERM, 2, 1), (giving, TERM, A, 1), (lowered, TERM), (lowered, at(3)),
    (applied, TERM, [A, B]), (opened, TERM), (ungrown, TREE), (ungrown, ("thing", "a", 0, (), ((every(("thing", "a"), A),),))),
    (owns, TREE, 0), (owns, LIST, 1), (thing_saying, TREE), (maker_saying, TREE, 0), (eater_saying, TREE, 3),
]
WRONG_CALLS = [
    (parts, ["app", A, [B]]), (part_at, TERM, [0, [1]]), (binders_at, TERM, {0: [1]}), (spots, [A]), (size, {"at": [0]}),
    (changed, TERM, (0,), ["at", [0]]), (free, [[0]]), (raised, TERM, [1], [2]), (giving, TERM, A, {0: [0]}), (lowered, [A]),
    (applied, TERM, [A, ["at", 0], [B]]), (applied, TERM, {"some": [A]}), (opened, [A]), (ungrown, ["thing", "a", 0, [], []]),
    (owns, LIST, [1]), (thing_saying, [LIST]), (maker_saying, NATS, {0: 1}), (eater_saying, NATS, [0]),
]


def spoil(thing):
    """Changes all lists in what was told."""
    if isinstance(thing, (list, tuple)):
        for inner in thing:
            spoil(inner)
    if isinstance(thing, list):
        thing.append("spoiled")
        thing.reverse()


class HandedIn(unittest.TestCase):
    def test_what_was_handed_in_stays(self):
        for call, *given in CALLS:
            ahead = deepcopy(given)
            call(*given)
            self.assertEqual(given, ahead, call)

    def test_what_was_refused_stays(self):
        for call, *given in WRONG_CALLS:
            ahead = deepcopy(given)
            with self.assertRaises(PaperError):
                call(*given)
            self.assertEqual(given, ahead, call)

    def test_of_any_thing_it_is_told_and_the_thing_stays(self):
        for thing in [*NOTHINGS, *NO_TERMS, *TERMS]:
            ahead = repr(thing)
            for call in (is_name, is_term, is_spot, is_row):
                self.assertIn(call(thing), (True, False))
                self.assertIs(call(thing).__class__, bool)
            self.assertIs(is_whole(thing, 0, 9).__class__, bool)
            self.assertEqual(repr(thing), ahead)


class Told(unittest.TestCase):
    def test_the_same_question_has_an_equal_answer(self):
        for call, *given in CALLS:
            self.assertEqual(call(*given), call(*deepcopy(given)), call)

    def test_the_same_question_is_refused_alike(self):
        for call, *given in WRONG_CALLS:
            told = []
            for _ in range(2):
                with self.assertRaises(PaperError) as caught:
                    call(*given)
                told.append((caught.exception.__class__, caught.exception.found))
            self.assertEqual(told[0], told[1])

    def test_told_lists_are_the_askers_own(self):
        for call, *given in CALLS:
            told = call(*given)
            ahead = deepcopy(told)
            spoil(told)
            self.assertEqual(call(*given), ahead, call)


# The sizes of point 5: sixty within one another, and just under 400 terms.
TALL = A
for _ in range(59):
    TALL = ("fun", K, TALL)
FULL = [A] * 200
while len(FULL) > 1:
    FULL = [("app", FULL[k], FULL[k + 1]) if k + 1 < len(FULL) else FULL[k] for k in range(0, len(FULL), 2)]
FULL = FULL[0]


def deeper(word, many, deep):
    """A term of so many within one another, each the last part of the one around it."""
    term = at(deep)
    for _ in range(deep - 1):
        term = (word, *[K] * (many - 1), term)
    return term


class Sizes(unittest.TestCase):
    def test_sixty_within_one_another(self):
        end = (1,) * 59
        self.assertTrue(is_term(TALL))
        self.assertEqual(size(TALL), 119)
        self.assertEqual(part_at(TALL, end), A)
        self.assertEqual(binders_at(TALL, end), 59)
        self.assertEqual(free(TALL), [])
        open_one = changed(TALL, end, at(60))
        self.assertEqual(free(open_one), [1])
        self.assertEqual(giving(open_one, B, 1), changed(TALL, end, at(60)))
        self.assertEqual(raised(open_one, 900, 1), changed(TALL, end, at(960)))
        self.assertEqual(lowered(open_one), changed(TALL, end, at(59)))
        self.assertEqual(len(spots(TALL)), 119)

    def test_four_hundred(self):
        self.assertEqual(size(FULL), 399)
        self.assertEqual(free(FULL), [0])
        self.assertEqual(free(raised(FULL, 999)), [999])
        self.assertIsNone(lowered(FULL))
        self.assertEqual(lowered(raised(FULL)), FULL)
        self.assertEqual(len(spots(FULL)), 399)

    def test_told_terms_handed_in_again(self):
        large = giving(FULL, FULL)
        self.assertEqual(size(large), 199 + 200 * 399)
        self.assertTrue(is_term(large))
        self.assertEqual(free(raised(large, 3)), [3])
        self.assertEqual(len(spots(large)), size(large))
        self.assertEqual(size(giving(large, A)), size(large))
        tall = TALL
        for _ in range(3):
            tall = changed(tall, (1,) * (len(spots(tall)) // 2), TALL)
        self.assertEqual(size(tall), 59 * 2 * 4 + 1)
        self.assertEqual(raised(tall), tall)

    def test_two_hundred_within_one_another(self):
        for word, many in [("all", 2), ("fun", 2), ("app", 2), ("same", 3), ("self", 2), ("put", 3)]:
            term = deeper(word, many, 200)
            above = 199 if word in ("all", "fun") else 0
            self.assertTrue(is_term(term))
            self.assertEqual(size(term), 199 * many + 1)
            self.assertEqual(free(term), [200 - above])
            end = spots(term)[-1]
            self.assertEqual(binders_at(term, end), above)
            self.assertEqual(raised(term, 5), changed(term, end, at(205)))
            self.assertEqual(lowered(term), changed(term, end, at(199)))
            self.assertEqual(giving(term, at(7), 200 - above), changed(term, end, at(7 + above)))

    def test_many_given(self):
        some = [at(number) for number in range(199)]
        told = applied(applied(K, some[:100]), some[100:])
        self.assertEqual(opened(told), (K, some))
        self.assertEqual(free(told), list(range(199)))

    def test_rows_of_large_terms(self):
        own = every(FULL, every(TALL, ("thing", "a")))
        row = ("thing", "a", 0, (), ((own, FULL, TALL, own), (own, own, own, own)))
        self.assertTrue(is_row(row))
        self.assertIsNone(ungrown(row))
        self.assertEqual([argument for argument, _ in owns(row, 0)], [0, 3])
        told = eater_saying(row, 5)
        self.assertTrue(is_term(told))
        again = ("hold", "b", told)
        self.assertTrue(is_row(again))
        self.assertEqual(size(maker_saying(row, 0)), 2 * size(own) + size(FULL) + size(TALL) + 5)
        bad = ("thing", "a", 0, (), ((changed(own, (1, 0) + (1,) * 59, ("thing", "a")),),))
        self.assertEqual(ungrown(bad), (0, 0, (1, 0) + (1,) * 59))


if __name__ == "__main__":
    unittest.main()
