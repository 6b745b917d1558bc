"""Points 7, 71 and 79: what is no deed, which refusal goes first, what is handed in and told, and papers of all goals."""

import random
import unittest
from copy import deepcopy
from kernelpapers.deeds import done_at, is_deed
from kernelpapers.errors import NoDeed, NoFit, NoGround, NoPaper, NoRoom, NoTerm, PaperError
from kernelpapers.grounds import Ground
from kernelpapers.kernel import saying_of, settles
from kernelpapers.terms import applied
from kernelpapers.worths import saying_by_worths
import plain
import plain_deeds
from goods import FLAG, GROUND, ROWS, Goods, NoGood, number
from samples import (A, B, C, K, NAT, NO_GROUNDS, NO_ROOMS, NO_TERMS, NO_WHOLES, NOTHINGS, SUCC, TERMS, ZERO, Stranger, app, at,
                     every, fun, nested, refused, refused_as)
from test_handed import spoil

DEEDS = [("bring",), ("give", K), ("use", K, ()), ("use", K, (None, A)), ("make", 0, ()), ("make", 999, (None,) * 8), ("split", 0),
         ("split", 999), ("steps",), ("turn", K), ("cut", K), ("put", K)]
NO_DEEDS = NOTHINGS + [
    0, 1, "bring", "steps", (), nested("tuple", 60), ("skip",), ("then", ("bring",), ("bring",)), ("each", ("bring",), ()),
    ("first", (("bring",),)), ("try", ("bring",)), ("again", ("bring",), 1), ("seek", 3), ["bring"], ("Bring",), ("bring", ()), ("bring", K),
    ("steps", K), ("steps", 0), ("give",), ("give", K, K), ("give", None), ("give", ["kind", 0]), ("give", "nat"), ("give", ("kind", 6)),
    ("turn",), ("turn", 0), ("turn", K, K), ("cut",), ("cut", ()), ("cut", K, ()), ("put",), ("put", None), ("put", K, K, K), ("put", K, K),
    ("use",), ("use", K), ("use", K, None), ("use", K, []), ("use", K, [K]), ("use", None, ()), ("use", 0, ()), ("use", K, (0,)),
    ("use", K, (None,) * 9), ("use", K, (K,) * 100), ("use", K, (True,)), ("use", K, ((),)), ("use", K, (("kind", 6),)), ("use", K, (), ()),
    ("use", K, K), ("make",), ("make", 0), ("make", 0, None), ("make", 0, []), ("make", -1, ()), ("make", 1000, ()), ("make", True, ()),
    ("make", False, ()), ("make", None, ()), ("make", "0", ()), ("make", K, ()), ("make", 0, (None,) * 9), ("make", 0, (0,)), ("make", 0, (), ()),
    ("make", 0, K), ("split",), ("split", -1), ("split", 1000), ("split", 10 ** 29), ("split", True), ("split", None), ("split", "0"),
    ("split", K), ("split", 0, 0), (("bring",),), (None,), (0, K), (["give"], K), (K,), ("give", {"kind": 0}), (Stranger(),), ("give", Stranger()),
    ("use", K, Stranger()), ("use", K, (Stranger(),)), ("split", Stranger()), Stranger(),
]


class IsDeed(unittest.TestCase):
    def test_deeds(self):
        for deed in DEEDS:
            self.assertIs(is_deed(deed), True, deed)
        for term in TERMS:
            self.assertIs(is_deed(("give", term)), True)
            self.assertIs(is_deed(("use", term, (term, None))), True)
            self.assertIs(is_deed(term), False)

    def test_no_deeds(self):
        for thing in NO_DEEDS:
            self.assertIs(is_deed(thing), False)
        for thing in [*NO_TERMS, Stranger()]:
            for word in ("give", "turn", "cut", "put"):
                self.assertIs(is_deed((word, thing)), False)
            self.assertIs(is_deed(("use", thing, ())), False)
            if thing is not None:
                self.assertIs(is_deed(("use", K, (K, thing))), False)
        for thing in NO_WHOLES:
            self.assertIs(is_deed(("split", thing)), False)
            self.assertIs(is_deed(("make", thing, ())), False)

    def test_by_name(self):
        self.assertIs(is_deed(thing=("steps",)), True)


class Refused(unittest.TestCase):
    def test_each_kind(self):
        for thing in [*NO_GROUNDS, Stranger()]:
            refused(self, NoGround, thing, done_at, thing, [None], None, None)
        for thing in [*NO_ROOMS, Stranger()]:
            refused(self, NoRoom, thing, done_at, GROUND, thing, None, None)
        for thing in [*NO_TERMS, Stranger()]:
            refused(self, NoTerm, thing, done_at, GROUND, [], thing, None)
        for thing in NO_DEEDS:
            refused(self, NoDeed, thing, done_at, GROUND, [], NAT, thing)

    def test_by_names_in_another_order(self):
        goals, paper = done_at(deed=("bring",), saying=every(NAT, NAT), room=(K,), ground=GROUND)
        self.assertEqual(goals, [((K, NAT), NAT)])
        self.assertEqual(paper([A]), fun(NAT, A))

    def test_rooms_by_tuples_and_lists(self):
        self.assertEqual(done_at(GROUND, (NAT,), NAT, ("steps",))[0], done_at(GROUND, [NAT], NAT, ("steps",))[0])

    def test_papers_go_ahead_of_what_does_not_fit(self):
        bad, worse = app(SUCC, NAT), at(13)
        for deed, spot, why in [
                (("give", bad), (1,), "unlike"), (("give", worse), (), "place"), (("use", ZERO, (None, bad, worse)), (1,), "unlike"),
                (("use", ZERO, (None, worse, bad)), (), "place"), (("use", worse, (bad,)), (), "place"), (("make", 999, (None, bad)), (1,), "unlike"),
                (("turn", bad), (1,), "unlike"), (("cut", worse), (), "place"), (("put", bad), (1,), "unlike"),
                (("turn", ("kind", 5)), (), "height")]:
            for room in ([], [NAT] * 12):
                refused_as(self, PaperError, NoPaper, {"spot": spot, "why": why}, done_at, GROUND, room, NAT, deed)

    def test_what_does_not_fit_is_the_whole_deed(self):
        for deed in [("bring",), ("give", K), ("use", K, (None,)), ("make", 7, ()), ("split", 3), ("turn", FLAG), ("cut", ZERO), ("put", ZERO)]:
            refused(self, NoFit, deed, done_at, GROUND, [], NAT, deed)


class Told(unittest.TestCase):
    def test_papers_are_made_of_whatever_is_handed(self):
        room = [NAT, ("same", NAT, A, A)]
        for goal, deed in [(every(NAT, NAT), ("bring",)), (NAT, ("use", ("name", "plus"), (None, None))), (NAT, ("make", 1, (None,))),
                           (NAT, ("split", 1)), (NAT, ("steps",)), (NAT, ("cut", FLAG)), (("same", NAT, B, B), ("put", A))]:
            goals, paper = done_at(GROUND, room, goal, deed)
            papers = [[K] * len(goals), [app(at(number + 70), ZERO) for number in range(len(goals))], [every(A, A)] * len(goals)]
            told = [paper(given) for given in papers]
            self.assertEqual([paper(given) for given in papers], told)
            self.assertEqual(papers[0], [K] * len(goals))
            self.assertEqual(plain_deeds.done(GROUND, room, goal, deed)[1](papers[1]), told[1])

    def test_what_is_told_and_handed_in_may_be_changed(self):
        room = [NAT]
        goals, paper = done_at(GROUND, room, NAT, ("split", 0))
        room.append(K)
        spoil(goals)
        self.assertEqual(paper([ZERO, A]), done_at(GROUND, [NAT], NAT, ("split", 0))[1]([ZERO, A]))
        self.assertEqual(len(done_at(GROUND, [NAT], NAT, ("split", 0))[0]), 2)
        given = [ZERO, A]
        told = paper(given)
        given.clear()
        self.assertEqual(paper([ZERO, A]), told)

    def test_what_is_handed_in_stays(self):
        room, goal = [NAT, K], every(NAT, NAT)
        for deed in DEEDS:
            ahead = deepcopy((room, goal, deed))
            try:
                done_at(GROUND, room, goal, deed)
            except (NoFit, NoPaper):
                pass
            self.assertEqual((room, goal, deed), ahead)

    def test_each_time_an_equal_answer(self):
        for deed in DEEDS:
            told = []
            for _ in range(2):
                try:
                    told.append(done_at(GROUND, [NAT], every(NAT, NAT), deed)[0])
                except (NoFit, NoPaper) as refusal:
                    told.append(vars(refusal))
            self.assertEqual(told[0], told[1])


class ByChance(unittest.TestCase):
    """Deeds at goals made by chance: held against a plain reckoning, and their papers against both checkers."""

    def deeds(self, goods, room, goal, term):
        """Deeds, many of which fit."""
        chance = goods.chance
        others = [one for _ in range(3) for one in [self.good(goods, room, chance.choice([NAT, FLAG, K]))]]
        others += [at(number) for number in range(len(room))]
        some = tuple(chance.choice([None, chance.choice(others)]) for _ in range(chance.randrange(4)))
        head = chance.choice([("name", "plus"), ("name", "id"), ("name", "twice"), ("name", "belief"), term, *others])
        if chance.random() < 0.5 and goal[0] == "all":
            some = tuple(None for _ in some)
        told = plain.worked(GROUND, goal)
        saying = plain.saying(GROUND, room, term)
        return [("bring",), ("give", term), ("give", chance.choice(others)), ("use", head, some), ("use", SUCC, (None,)),
                ("make", chance.randrange(3), some), ("make", 1, (None,)), ("make", 1, (None, None)), ("make", 2, (None,)),
                ("split", chance.randrange(4)), ("split", 0), ("steps",), ("turn", told), ("turn", saying), ("turn", goal),
                ("cut", self.good_kind(goods, room)), ("cut", chance.choice(others)),
                ("put", app(("name", "belief"), chance.choice([ZERO, number(1), *others]))), ("put", ("self", K, NAT)), ("put", ("self", NAT, ZERO)),
                ("put", chance.choice(others))]

    def good(self, goods, room, told):
        try:
            return goods.term(room, told, 2)
        except NoGood:
            return ZERO

    def good_kind(self, goods, room):
        try:
            return goods.kind(0, room, 2)
        except NoGood:
            return NAT

    def holds(self, room, goal, deed, goals, paper):
        """The goals have kinds, and the paper, made of what is believed of the goals, has the saying."""
        rows, papers = [], []
        for at_goal, (left, asked) in enumerate(goals):
            self.assertEqual(saying_of(GROUND, left, asked)[0], "kind")
            saying = asked
            for one in reversed(left):
                saying = every(one, saying)
            rows.append(("hold", "goal" + chr(97 + at_goal), saying))
            papers.append(applied(("name", rows[-1][1]), [at(number) for number in reversed(range(len(left)))]))
        ground = Ground([*ROWS, *rows])
        self.assertTrue(settles(ground, room, paper(papers), goal), (room, goal, deed))
        self.assertEqual(saying_by_worths(ground, room, paper(papers)), plain.worked(ground, goal))

    def test_against_a_plain_reckoning(self):
        goods = Goods(79)
        seen = {}
        for room, term, goal in goods.many(140, 3):
            room = list(room)
            goal = goods.chance.choice([goal, app(fun(K, A), goal) if plain.saying(GROUND, room, goal) == K else goal])
            for deed in self.deeds(goods, room, goal, term):
                try:
                    wanted = plain_deeds.done(GROUND, room, goal, deed)
                except plain_deeds.NotDone:
                    refused(self, NoFit, deed, done_at, GROUND, room, goal, deed)
                    continue
                except plain.Fails as fault:
                    refused_as(self, PaperError, NoPaper, {"spot": fault.spot, "why": fault.why}, done_at, GROUND, room, goal, deed)
                    continue
                goals, paper = done_at(GROUND, room, goal, deed)
                self.assertEqual(goals, wanted[0])
                papers = [at(number) for number in range(len(goals))]
                self.assertEqual(paper(papers), wanted[1](papers))
                self.holds(room, goal, deed, goals, paper)
                seen[deed[0]] = seen.get(deed[0], 0) + 1
        for word in ("bring", "give", "use", "make", "split", "steps", "turn", "cut", "put"):
            self.assertGreater(seen.get(word, 0), 5, (word, seen))


if __name__ == "__main__":
    unittest.main()
