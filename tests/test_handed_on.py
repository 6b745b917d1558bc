"""Points 5 to 7 for grounds, steps and both checkers: what was handed in stays, told lists are new, answers are equal."""

import unittest
from copy import deepcopy
from kernelpapers.errors import NotThere, PaperError
from kernelpapers.grounds import Ground
from kernelpapers.kernel import saying_of, settles, unsound, unsound_room
from kernelpapers.steps import alike, meeting, stepped, steps, told_way, worked
from kernelpapers.terms import size
from kernelpapers.worths import Worth, giver, saying_by_worths, worked_by_worths
from goods import GROUND, ROWS, number
from samples import A, B, K, LIST, NAT, NATS, SUCC, ZERO, app, at, every, fun
from test_handed import FULL, TALL, spoil

TERM = app(("name", "plus"), number(1), app(fun(NAT, A), number(2)))
ROOM = [K, A, every(B, K)]
UNSOUND = Ground([NATS, ("thing", "bad", 0, (K,), ((NAT,), (every(("thing", "bad"), NAT),)))])


def rows(ground):
    return ground.rows()


def names(ground):
    return ground.names()


def told(ground, name):
    return ground.told(name)


def given(ground, term, other):
    return giver(ground, term)(other)


CALLS = [
    (Ground, list(ROWS)), (rows, GROUND), (names, GROUND), (told, GROUND, "list"), (len, GROUND), (Ground.with_row, Ground([NATS]), LIST),
    (Ground.has, GROUND, ["nat"]), (Ground.has, GROUND, "nat"),
    (steps, GROUND, TERM), (stepped, GROUND, TERM, (1,)), (worked, GROUND, TERM, 99), (told_way, GROUND, TERM),
    (alike, GROUND, TERM, number(3)), (meeting, GROUND, TERM, (1,), (0, 0)),
    (saying_of, GROUND, ROOM, fun(at(2), app(B, A))), (settles, GROUND, ROOM, at(2), K), (unsound, GROUND), (unsound, UNSOUND),
    (unsound_room, GROUND, ROOM), (unsound_room, GROUND, [K, ZERO]), (saying_by_worths, GROUND, ROOM, fun(at(2), app(B, A))),
    (worked_by_worths, GROUND, TERM), (Worth, GROUND, TERM), (Worth.term, Worth(GROUND, TERM)), (Worth.saying, Worth(GROUND, TERM)),
    (Worth.ground, Worth(GROUND, TERM)), (Worth.to, Worth(GROUND, SUCC), Worth(GROUND, TERM)), (given, GROUND, SUCC, TERM),
]
WRONG_CALLS = [
    (Ground, [NATS, ["thing", [0]]]), (Ground, [NATS, NATS]), (Ground, {0: [NATS]}), (told, GROUND, ["nat"]),
    (Ground.with_row, GROUND, ["hold", "h", [K]]), (Ground.with_row, GROUND, ("hold", "nat", K)),
    (steps, [GROUND], TERM), (steps, GROUND, [[K]]), (stepped, GROUND, TERM, [1]), (worked, GROUND, TERM, [9]), (worked, GROUND, TERM, 3),
    (told_way, GROUND, TERM, 3), (told_way, GROUND, [TERM]), (alike, GROUND, [TERM], TERM), (meeting, GROUND, TERM, [1], (0, 0)),
    (saying_of, [ROWS], ROOM, K), (saying_of, GROUND, [K, [K]], K), (saying_of, GROUND, [K] * 13, K), (saying_of, GROUND, ROOM, [K]),
    (saying_of, GROUND, ROOM, app(A, A)), (settles, GROUND, {0: K}, K, K), (unsound, [ROWS]), (unsound_room, GROUND, [K, []]),
    (saying_by_worths, GROUND, ROOM, app(A, A)), (worked_by_worths, GROUND, [TERM]), (Worth, GROUND, app(ZERO, ZERO)),
    (Worth.to, Worth(GROUND, ZERO), [ZERO]), (Worth.to, Worth(GROUND, ZERO), Worth(GROUND, ZERO)), (giver, GROUND, ZERO),
    (given, GROUND, SUCC, [ZERO]), (given, GROUND, SUCC, NAT),
]


def seen(thing):
    """What can be seen of a thing, by which it is known whether it has changed."""
    if isinstance(thing, Ground):
        return thing.rows(), thing.names(), len(thing)
    if isinstance(thing, Worth):
        return thing.term(), thing.saying(), thing.ground().rows()
    return deepcopy(thing)


class HandedIn(unittest.TestCase):
    def test_what_was_handed_in_stays(self):
        for call, *some in CALLS:
            ahead = [seen(thing) for thing in some]
            call(*some)
            self.assertEqual([seen(thing) for thing in some], ahead, call)

    def test_what_was_refused_stays(self):
        for call, *some in WRONG_CALLS:
            ahead = [seen(thing) for thing in some]
            with self.assertRaises((PaperError, NotThere)):
                call(*some)
            self.assertEqual([seen(thing) for thing in some], ahead, call)

    def test_rooms_and_rows_that_are_changed_later(self):
        room, told_rows = list(ROOM), [NATS, LIST]
        ground = Ground(told_rows)
        worth = Worth(ground, ZERO)
        deed = giver(ground, SUCC)
        told_rows.clear()
        self.assertEqual(saying_of(ground, room, A), saying_of(Ground([NATS, LIST]), tuple(room), A))
        room.clear()
        self.assertEqual(worth, Worth(Ground([NATS, LIST]), ZERO))
        self.assertEqual(deed(ZERO), number(1))


class Told(unittest.TestCase):
    def test_the_same_question_has_an_equal_answer(self):
        for call, *some in CALLS:
            self.assertEqual(call(*some), call(*some), call)
            self.assertEqual(call(*some), call(*deepcopy(some)), call)

    def test_the_same_question_is_refused_alike(self):
        for call, *some in WRONG_CALLS:
            refusals = []
            for handed in (some, some, deepcopy(some)):
                with self.assertRaises((PaperError, NotThere)) as caught:
                    call(*handed)
                refusals.append((caught.exception.__class__, vars(caught.exception)))
            self.assertEqual(refusals[0], refusals[1])
            self.assertEqual(refusals[0], refusals[2])

    def test_told_lists_are_the_askers_own(self):
        for call, *some in CALLS:
            answer = call(*some)
            ahead = seen(answer)
            if not isinstance(answer, (Ground, Worth)):
                spoil(answer)
            self.assertEqual(seen(call(*some)), ahead, call)

    def test_a_refusals_list_is_its_own(self):
        ground = Ground([("hold", "h" + chr(97 + many), K) for many in range(24)])
        with self.assertRaises(PaperError) as caught:
            ground.with_row(NATS)
        caught.exception.found.clear()
        self.assertEqual(len(ground), 24)


class Bounds(unittest.TestCase):
    """Terms of 400 terms, and of sixty within one another, in each place where a term is handed in."""

    ground = Ground([NATS, ("hold", "full", K), ("mean", "tall", every(K, K), fun(K, A))])

    def test_they_are_taken(self):
        self.assertEqual(saying_of(self.ground, [], TALL), saying_by_worths(self.ground, [], TALL))
        self.assertEqual(worked_by_worths(self.ground, TALL), TALL)
        self.assertEqual(worked(self.ground, FULL), FULL)
        self.assertEqual(steps(self.ground, app(fun(K, FULL), NAT))[0][0], ())
        self.assertIs(settles(self.ground, [K], FULL, TALL), False)
        self.assertIs(alike(self.ground, FULL, TALL), False)
        self.assertEqual(unsound_room(self.ground, [FULL] * 12), (0, (0,) * 8, "place"))
        self.assertEqual(unsound_room(self.ground, [TALL]), (0, (), "kind"))

    def test_a_ground_as_large_as_it_may_be(self):
        ground = Ground()
        for many in range(24):
            name = "n" + chr(97 + many)
            bounds = (K, every(A, K), every(B, K))
            own = every(K, app(("thing", name), at(4), at(3), at(2)))
            made = tuple((at(2), app(at(2), A), app(at(2), B), every(at(5), app(("thing", name), *map(at, (6, 5, 4)))))
                         for _ in range(5))
            ground = ground.with_row(("thing", name, 0, bounds, made))
            self.assertNotIn(own, made[0])
        self.assertIsNone(unsound(ground))
        for many in range(24):
            row = ground.rows()[many]
            for number_of_maker in range(5):
                term = ("maker", row[1], number_of_maker)
                self.assertEqual(saying_of(ground, [], term), saying_by_worths(ground, [], term))
            eater = ("eater", row[1], 0)
            self.assertEqual(saying_of(ground, [], eater), saying_by_worths(ground, [], eater))
            self.assertGreater(size(saying_of(ground, [], eater)), 200)


if __name__ == "__main__":
    unittest.main()
