"""Points 33 to 36: what is worked out, the told way and the most, and how two ways meet."""

import random
import unittest
from kernelpapers.errors import NoGround, NoNumber, NoStep, NoTerm, PaperError, Tired
from kernelpapers.grounds import Ground
from kernelpapers.kernel import saying_of
from kernelpapers.steps import alike, meeting, stepped, steps, told_way, worked
from kernelpapers.terms import applied, size
import plain
from goods import GROUND, Goods, feed, number
from samples import (A, B, C, K, LEAVES, NAT, NATS, NO_GROUNDS, NO_TERMS, NO_WHOLES, NOTHINGS, SUCC, ZERO, Maker, app, at, by_places, every,
                     fun, refused, refused_as)

EMPTY = Ground()
PLUS, TIMES = ("name", "plus"), ("name", "times")
# It goes on for ever, and stays as it is.
WHIRL = app(fun(K, app(A, A)), fun(K, app(A, A)))


def chain(many, end=NAT):
    """A term that takes just so many steps: each fun is given what the next one comes to."""
    term = end
    for _ in range(many):
        term = app(fun(K, A), term)
    return term


class Worked(unittest.TestCase):
    def test_without_steps(self):
        for term in [*LEAVES[:10], every(A, B), fun(A, app(B, A)), ("put", A, B, C), feed(0, A, B, C, app(SUCC, A, A))]:
            self.assertEqual(worked(EMPTY, term), term)
            self.assertEqual(told_way(EMPTY, term), [])
            self.assertEqual(worked(EMPTY, term, 0), term)
            self.assertEqual(told_way(EMPTY, term, 0), [])

    def test_sums_and_products(self):
        for one in range(5):
            for other in range(5):
                self.assertEqual(worked(GROUND, app(PLUS, number(one), number(other))), number(one + other))
                self.assertEqual(worked(GROUND, app(TIMES, number(one), number(other))), number(one * other))

    def test_everywhere_in_a_term(self):
        two = app(PLUS, number(1), number(1))
        for word, many in [("all", 2), ("fun", 2), ("app", 2), ("same", 3), ("self", 2), ("put", 3)]:
            self.assertEqual(worked(GROUND, (word, *[two] * many)), (word, *[number(2)] * many))

    def test_what_is_left_stuck(self):
        self.assertEqual(worked(GROUND, app(PLUS, app(SUCC, A), number(1))),
                         app(SUCC, feed(0, fun(NAT, NAT), number(1), fun(NAT, fun(NAT, app(SUCC, A))), A)))
        self.assertEqual(worked(GROUND, app(("name", "belief"), app(PLUS, ZERO, ZERO))), app(("name", "belief"), ZERO))

    def test_what_is_thrown_away_takes_no_step(self):
        self.assertEqual(worked(EMPTY, app(fun(K, NAT), WHIRL), 1), NAT)
        self.assertEqual(worked(GROUND, ("put", WHIRL, ("self", WHIRL, WHIRL), NAT), 1), NAT)

    def test_by_names(self):
        self.assertEqual(worked(most=1, term=chain(1), ground=EMPTY), NAT)
        self.assertEqual(told_way(most=1, term=chain(1), ground=EMPTY), [()])


class ToldWay(unittest.TestCase):
    def test_one_and_one(self):
        # The name; the two terms that it is given; eaten; the two terms of the step; what is told of nought.
        self.assertEqual(told_way(GROUND, app(PLUS, number(1), number(1))),
                         [(0, 0), (0,), (), (), (0,), (), (1,)])

    def test_outwards_first(self):
        self.assertEqual(told_way(EMPTY, app(fun(K, app(A, A)), chain(1))), [(), (0,), (1,)])
        self.assertEqual(told_way(EMPTY, fun(chain(2), chain(1))), [(0,), (0,), (1,)])
        self.assertEqual(told_way(EMPTY, chain(4)), [(), (), (), ()])

    def test_the_left_one_first(self):
        self.assertEqual(told_way(EMPTY, app(app(A, chain(1)), chain(2))), [(0, 1), (1,), (1,)])
        self.assertEqual(told_way(EMPTY, ("same", chain(1), app(A, chain(1)), chain(1))), [(0,), (1, 1), (2,)])

    def test_a_term_further_outwards_goes_by_a_step_within(self):
        # A fun comes out: the app around it goes next, ahead of the steps in it.
        term = app(app(fun(K, A), fun(K, app(A, chain(1)))), NAT)
        self.assertEqual(told_way(EMPTY, term), [(0,), (), (1,)])
        # A self comes out: the put around it goes next.
        term = ("put", chain(1), chain(1, ("self", chain(1), K)), chain(1))
        self.assertEqual(told_way(EMPTY, term), [(0,), (1,), (), ()])
        # A maker comes out, as the head of what an eater is given: the whole goes next.
        term = feed(0, chain(1), A, B, app(app(fun(K, A), SUCC), chain(2)))
        self.assertEqual(told_way(GROUND, term), [(0, 0, 0, 1), (1, 0), (), (0, 1), (0, 1), (1, 1), (1, 1)])
        # An eater comes out, and all that it is given is there already.
        term = app(chain(1, ("eater", "nat", 0)), chain(1), chain(1), chain(1), ZERO)
        self.assertEqual(told_way(GROUND, term), [(0, 0, 0, 0), (), ()])

    def test_what_an_eater_is_given_ahead_of_the_last(self):
        # The last one is no maker yet, so the parts ahead of it are gone into.
        term = feed(0, chain(1), chain(1), chain(1), chain(1, ZERO))
        self.assertEqual(told_way(GROUND, term), [(0, 0, 0, 1), (0, 0, 1), (0, 1), (1,), ()])
        term = feed(0, chain(1), chain(1), chain(1), ZERO)
        self.assertEqual(told_way(GROUND, term), [(), ()])

    def test_the_widest_eater(self):
        # Three bounds and five makers: ten terms are given, and a maker of four arguments seven.
        row = ("thing", "big", 0, (K, K, K), ((), (), (), (), (K, K, K, K)))
        ground = Ground([row])
        made = app(chain(1, ("maker", "big", 4)), *[at(place) for place in range(7)])
        given = [at(place) for place in range(9)]
        self.assertEqual(told_way(ground, app(("eater", "big", 0), *given, made)), [(1, *(0,) * 7), ()])
        self.assertEqual(worked(ground, app(("eater", "big", 0), *given, made)), app(at(8), at(3), at(4), at(5), at(6)))
        term = app(chain(1, ("eater", "big", 0)), *given, app(("maker", "big", 0), A, A, A))
        self.assertEqual(told_way(ground, term), [(0,) * 10, ()])
        self.assertEqual(worked(ground, term), at(4))

    def test_it_is_the_way_of_the_least_spots(self):
        for _, term, _ in Goods(341).many(120, 4):
            way = told_way(GROUND, term)
            now = term
            for spot in way:
                self.assertEqual(steps(GROUND, now)[0][0], spot)
                now = stepped(GROUND, now, spot)
            self.assertEqual(steps(GROUND, now), [])
            self.assertEqual(worked(GROUND, term), now)

    def test_terms_that_no_kernel_takes(self):
        maker = Maker(342)
        ended = 0
        for _ in range(400):
            term = by_places(maker.term(("ra", "rb"), 5), ("ra", "rb"))
            try:
                way, end = plain.told_way(GROUND, term, 60)
            except plain.TooLong:
                continue
            ended += len(way) > 0
            self.assertEqual(told_way(GROUND, term), way)
            self.assertEqual(worked(GROUND, term, len(way)), end)
        self.assertGreater(ended, 50)

    def test_a_new_list_each_time(self):
        told = told_way(EMPTY, chain(2))
        self.assertIs(told.__class__, list)
        told.append("spoiled")
        self.assertEqual(told_way(EMPTY, chain(2)), [(), ()])


class Most(unittest.TestCase):
    def test_just_as_many_and_one_less(self):
        for term in [chain(1), chain(7), app(PLUS, number(3), number(2)), app(TIMES, number(2), number(3))]:
            many = len(told_way(GROUND, term))
            self.assertEqual(worked(GROUND, term, many), worked(GROUND, term))
            self.assertEqual(told_way(GROUND, term, many), told_way(GROUND, term))
            self.assertEqual(worked(GROUND, term, many + 1), worked(GROUND, term))
            for most in (many - 1, 0):
                for call in (worked, told_way):
                    refused_as(self, PaperError, Tired, {"most": most}, call, GROUND, term, most)

    def test_three_thousand(self):
        # Sixty funs, each of fifty steps; so the term itself is a small one.
        fifty = app(fun(K, app(chain(25, A), chain(24, A))), K)
        term = applied(K, [fifty] * 60)
        self.assertEqual(len(told_way(EMPTY, term)), 3000)
        self.assertEqual(worked(EMPTY, term, 3000), applied(K, [app(K, K)] * 60))
        self.assertEqual(worked(EMPTY, term), worked(EMPTY, term, 3000))
        for call in (worked, told_way):
            refused_as(self, PaperError, Tired, {"most": 2999}, call, EMPTY, term, 2999)
            refused_as(self, PaperError, Tired, {"most": 3000}, call, EMPTY, app(term, chain(1)))
            refused_as(self, PaperError, Tired, {"most": 3000}, call, EMPTY, app(term, chain(1)), most=3000)

    def test_what_goes_on_for_ever(self):
        loop = Ground([("mean", "loop", K, ("name", "loop"))])
        growing = app(fun(K, app(K, app(A, A))), fun(K, app(K, app(A, A))))
        for ground, term in [(EMPTY, WHIRL), (loop, ("name", "loop")), (EMPTY, fun(WHIRL, A)), (EMPTY, growing)]:
            for call in (worked, told_way):
                refused_as(self, PaperError, Tired, {"most": 3000}, call, ground, term)
                refused_as(self, PaperError, Tired, {"most": 17}, call, ground, term, 17)
                refused_as(self, PaperError, Tired, {"most": 0}, call, ground, term, 0)

    def test_no_number(self):
        for call in (worked, told_way):
            for thing in [*NO_WHOLES, 3001, 10 ** 29]:
                # It goes ahead of Tired, and where nothing has to be worked out, too.
                refused(self, NoNumber, thing, call, EMPTY, WHIRL, thing)
                refused(self, NoNumber, thing, call, EMPTY, K, thing)
                refused(self, NoNumber, thing, call, most=thing, term=K, ground=EMPTY)


class Alike(unittest.TestCase):
    def test_by_hand(self):
        for one, other, told in [
                (app(PLUS, number(2), number(3)), app(PLUS, number(4), number(1)), True),
                (app(PLUS, number(2), number(3)), app(TIMES, number(2), number(3)), False),
                (app(TIMES, number(2), number(3)), number(6), True),
                (number(2), number(2), True), (number(2), number(3), False), (A, B, False), (A, A, True),
                (PLUS, TIMES, False), (("name", "nums"), NAT, True), (app(("name", "id"), NAT, A), A, True),
                (fun(NAT, app(SUCC, A)), SUCC, False), (every(NAT, chain(2)), every(chain(3), NAT), True)]:
            self.assertIs(alike(GROUND, one, other), told)
            self.assertIs(alike(GROUND, other, one), told)

    def test_terms_on_one_way(self):
        for _, term, _ in Goods(33).many(60, 4):
            for _, _, made in steps(GROUND, term):
                self.assertIs(alike(GROUND, term, made), True)
                self.assertIs(alike(GROUND, made, term), True)

    def test_what_goes_on_for_ever(self):
        refused_as(self, PaperError, Tired, {"most": 3000}, alike, EMPTY, WHIRL, WHIRL)
        refused_as(self, PaperError, Tired, {"most": 3000}, alike, EMPTY, WHIRL, K)
        refused_as(self, PaperError, Tired, {"most": 3000}, alike, EMPTY, K, WHIRL)

    def test_by_names(self):
        self.assertIs(alike(other=NAT, one=chain(3), ground=EMPTY), True)


class Meeting(unittest.TestCase):
    def meets(self, ground, term, one, other):
        told = meeting(ground, term, one, other)
        self.assertIs(told.__class__, tuple)
        ways = told[:2]
        end = told[2]
        for spot, way in zip((one, other), ways):
            self.assertIs(way.__class__, list)
            now = stepped(ground, term, spot)
            for further in way:
                now = stepped(ground, now, further)
            self.assertEqual(now, end)

    def test_by_hand(self):
        # Beside one another, within one another, doubled, and thrown away.
        self.meets(EMPTY, app(chain(1), chain(1)), (0,), (1,))
        self.meets(EMPTY, app(fun(K, app(A, A)), chain(2)), (), (1,))
        self.meets(EMPTY, app(fun(K, NAT), chain(2)), (1, 1), ())
        self.meets(EMPTY, app(fun(chain(1), A), NAT), (), (0, 0))
        self.meets(GROUND, app(PLUS, app(PLUS, number(1), number(1)), number(1)), (0, 0), (0, 1, 0, 0))

    def test_the_same_spot_twice(self):
        self.meets(EMPTY, chain(3), (1,), (1,))
        self.meets(GROUND, app(TIMES, number(2), number(2)), (0, 0), (0, 0))

    def test_checked_terms(self):
        chance = random.Random(35)
        met = 0
        for _, term, _ in Goods(35).many(200, 4):
            places = [spot for spot, _, _ in steps(GROUND, term)]
            for _ in range(min(len(places), 4)):
                self.meets(GROUND, term, chance.choice(places), chance.choice(places))
                met += 1
        self.assertGreater(met, 150)

    def test_no_step(self):
        term = app(chain(1), chain(1))
        for thing in [*NOTHINGS, 0, "0", (1, 1), (2,), (), [0], (0, 0)]:
            refused(self, NoStep, thing, meeting, EMPTY, term, thing, (0,))
            refused(self, NoStep, thing, meeting, EMPTY, term, (1,), thing)
            refused(self, NoStep, thing, meeting, EMPTY, term, thing, ["wrong too"])
        one, other = (5,), (6,)
        refused(self, NoStep, one, meeting, EMPTY, term, one, other)
        refused(self, NoStep, one, meeting, other=other, one=one, term=term, ground=EMPTY)

    def test_what_goes_on_for_ever(self):
        refused_as(self, PaperError, Tired, {"most": 3000}, meeting, EMPTY, app(WHIRL, chain(1)), (0,), (1,))

    def test_by_names(self):
        self.assertEqual(meeting(other=(1,), one=(0,), term=app(chain(1), chain(1)), ground=EMPTY)[2], app(NAT, NAT))


class Refused(unittest.TestCase):
    def test_no_ground_goes_first(self):
        for thing in NO_GROUNDS:
            refused(self, NoGround, thing, worked, thing, K)
            refused(self, NoGround, thing, worked, thing, None, None)
            refused(self, NoGround, thing, told_way, thing, [K], -1)
            refused(self, NoGround, thing, alike, thing, K, K)
            refused(self, NoGround, thing, alike, thing, None, None)
            refused(self, NoGround, thing, meeting, thing, None, None, None)

    def test_no_term_goes_next(self):
        for thing in NO_TERMS:
            refused(self, NoTerm, thing, worked, EMPTY, thing)
            refused(self, NoTerm, thing, worked, EMPTY, thing, -1)
            refused(self, NoTerm, thing, told_way, EMPTY, thing, None)
            refused(self, NoTerm, thing, alike, EMPTY, thing, ["at", 0])
            refused(self, NoTerm, thing, alike, EMPTY, WHIRL, thing)
            refused(self, NoTerm, thing, meeting, EMPTY, thing, None, None)


class EachRowEnds(unittest.TestCase):
    """Point 36."""

    def test_at_one_term_whichever_step_is_taken(self):
        chance = random.Random(36)
        gone = 0
        for room, term, told in Goods(36).many(80, 4):
            end = worked(GROUND, term)
            for _ in range(3):
                now = term
                for _ in range(100):
                    some = steps(GROUND, now)
                    if not some or size(now) > 2000:
                        break
                    now = chance.choice(some)[2]
                    gone += 1
                self.assertEqual(worked(GROUND, now), end)
                self.assertEqual(saying_of(GROUND, room, now), told)
        self.assertGreater(gone, 500)

    def test_a_step_leaves_its_saying_as_it_is(self):
        for room, term, told in Goods(37).many(100, 4):
            for _, _, made in steps(GROUND, term):
                self.assertEqual(saying_of(GROUND, room, made), told)
            self.assertEqual(saying_of(GROUND, room, worked(GROUND, term)), told)


class Large(unittest.TestCase):
    BIN = ("thing", "bin")
    LEAF, FORK = ("maker", "bin", 0), ("maker", "bin", 1)
    ground = Ground([NATS, ("thing", "bin", 0, (), ((), (BIN, BIN)))])

    def doubled(self, many):
        term = self.LEAF
        for _ in range(many):
            term = app(fun(self.BIN, app(self.FORK, A, A)), term)
        return term

    def test_a_large_term_comes_out(self):
        term = self.doubled(11)
        self.assertEqual(len(told_way(self.ground, term)), 2 ** 11 - 1)
        end = worked(self.ground, term)
        self.assertEqual(size(end), 2 ** 13 - 3)
        # It may be handed in again.
        self.assertEqual(worked(self.ground, end), end)
        self.assertEqual(told_way(self.ground, end), [])
        self.assertIs(alike(self.ground, end, term), True)
        again = app(fun(self.BIN, app(self.FORK, chain(1), A)), end)
        self.assertEqual(worked(self.ground, again), app(self.FORK, NAT, end))

    def test_sixty_and_two_hundred_within_one_another(self):
        for deep in (59, 199):
            term = chain(1)
            for _ in range(deep - 1):
                term = fun(K, term)
            spot = (1,) * (deep - 1)
            self.assertEqual(told_way(EMPTY, term), [spot])
            self.assertEqual([step[:2] for step in steps(EMPTY, term)], [(spot, "give")])
            self.assertEqual(stepped(EMPTY, term, spot), worked(EMPTY, term))
            self.assertEqual(meeting(EMPTY, term, spot, spot)[2], worked(EMPTY, term))

    def test_many_within_one_another_are_eaten(self):
        self.assertEqual(worked(GROUND, app(PLUS, number(150), number(40))), number(190))

    def test_four_hundred(self):
        term = applied(K, [chain(1)] * 66)
        self.assertEqual(size(term), 397)
        self.assertEqual(worked(EMPTY, term), applied(K, [NAT] * 66))
        self.assertEqual(len(steps(EMPTY, term)), 66)


if __name__ == "__main__":
    unittest.main()
