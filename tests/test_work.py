"""Points 81 to 85: works, their holes, what is undone, twins."""

import random
import unittest
from itertools import permutations
from kernelpapers.errors import (NoDeed, NoFit, NoGround, NoHole, NoPaper, NoRoom, NoTerm, NotThere, NoneLeft, Open, PaperError,
                                 Unsound)
from kernelpapers.grounds import Ground
from kernelpapers.kernel import saying_of, settles
from kernelpapers.texts import read
from kernelpapers.work import Work
from kernelpapers.worths import saying_by_worths
from goods import GROUND, ROWS, number
from samples import (A, B, C, K, LIST, NAT, NATS, NO_GROUNDS, NO_ROOMS, NO_TERMS, NOTHINGS, PLUS, SUCC, ZERO, Stranger, app, at, every,
                     fun, nested, refused, refused_as)
from test_deeds_refused import NO_DEEDS
from test_handed import spoil

ENDS = every(NAT, ("same", NAT, app(("name", "plus"), A, ZERO), A))
USE = ("use", ("name", "plus"), (None, None))
ONE, TWO = number(1), number(2)


# In a room in which the last but one is a number and the last that none added is the number itself: the same turned round.
ADDED = app(("name", "plus"), B, ZERO)
TURNED_AT_HAND = ("put", fun(NAT, ("same", NAT, A, app(("name", "plus"), C, ZERO))), A, ("self", NAT, ADDED))
# The same, with another number at hand.
TURNED = ("put", fun(NAT, ("same", NAT, A, app(("name", "plus"), at(3), ZERO))), B, ("self", NAT, app(("name", "plus"), C, ZERO)))


def give(term):
    return ("give", term)


def no_hole(case, thing, deed, *given):
    """Refused with NoHole of the very thing."""
    with case.assertRaises(NoHole) as caught:
        deed(*given)
    case.assertIs(caught.exception.__class__, NoHole)
    case.assertIs(caught.exception.found, thing)
    case.assertEqual(NoHole.__bases__, (NotThere,))
    case.assertIsInstance(caught.exception, KeyError)


def is_open(case, holes, deed, *given):
    with case.assertRaises(Open) as caught:
        deed(*given)
    case.assertIs(caught.exception.__class__, Open)
    case.assertEqual(caught.exception.found, holes)
    case.assertIsInstance(caught.exception, NoneLeft)
    case.assertIsInstance(caught.exception, LookupError)


class Made(unittest.TestCase):
    def test_at_first(self):
        work = Work(GROUND, NAT)
        self.assertEqual((work.holes(), work.filled(), len(work), bool(work)), ([0], [], 1, True))
        self.assertEqual(work.goal(0), ([], NAT))
        self.assertEqual(work.ground(), GROUND)
        self.assertIsInstance(work.goal(0), tuple)
        self.assertEqual(Work(GROUND, B, (K, A)).goal(0), ([K, A], B))
        self.assertEqual(Work(GROUND, NAT, []).goal(0), ([], NAT))
        self.assertEqual(Work(GROUND, app(fun(K, A), NAT), [app(fun(K, A), NAT)]).goal(0),
                         ([app(fun(K, A), NAT)], app(fun(K, A), NAT)))

    def test_by_names(self):
        work = Work(room=[K], saying=A, ground=GROUND)
        self.assertEqual(work.goal(hole=0), ([K], A))
        self.assertEqual(work.do(deed=("steps",), hole=0), [1])
        self.assertEqual((work.deed(hole=0), work.left(hole=0)), (("steps",), [1]))
        self.assertEqual(work.put_back(other=work.twin()), [1])
        self.assertEqual(work.undo(hole=0), [0])

    def test_what_is_no_ground_no_term_no_room(self):
        for thing in [*NO_GROUNDS, Stranger()]:
            refused(self, NoGround, thing, Work, thing, None, 0)
        for thing in [*NO_TERMS, Stranger()]:
            refused(self, NoTerm, thing, Work, GROUND, thing, 0)
        for thing in [*NO_ROOMS, Stranger()]:
            if thing is not None:
                refused(self, NoRoom, thing, Work, Ground([("hold", "a", ZERO)]), at(9), thing)
                refused(self, NoRoom, thing, Work, room=thing, saying=K, ground=GROUND)

    def test_unsound_grounds(self):
        bad = Ground([NATS, ("thing", "bad", 0, (), ((NAT, every(("thing", "bad"), NAT)),)), ("hold", "worse", ZERO)])
        fields = {"row": 1, "where": ("maker", 0, 1), "spot": (0,), "why": "growing"}
        refused_as(self, PaperError, Unsound, fields, Work, bad, ("kind", 5), [ZERO])
        refused_as(self, PaperError, Unsound, {"row": 0, "where": ("saying",), "spot": (), "why": "name"}, Work,
                   Ground([("hold", "a", ("name", "b"))]), K)

    def test_unsound_rooms(self):
        for room in ([ZERO], [K, ZERO], (A,), [K, NAT, A], [("kind", 5)], [B, K]):
            refused(self, NoRoom, room, Work, GROUND, ("kind", 5), room)

    def test_sayings_without_a_kind(self):
        for saying, spot, why in [(ZERO, (), "kind"), (SUCC, (), "kind"), (A, (), "place"), (("kind", 5), (), "height"), (app(SUCC, K), (1,), "unlike"),
                                  (every(NAT, A), (1,), "kind")]:
            refused_as(self, PaperError, NoPaper, {"spot": spot, "why": why}, Work, GROUND, saying)
        refused_as(self, PaperError, NoPaper, {"spot": (), "why": "kind"}, Work, GROUND, A, [NAT])
        refused_as(self, PaperError, NoPaper, {"spot": (), "why": "place"}, Work, GROUND, B, [K])


class Holes(unittest.TestCase):
    def test_numbers_are_given_in_order(self):
        work = Work(GROUND, NAT)
        self.assertEqual(work.do(0, USE), [1, 2])
        self.assertEqual(work.do(2, USE), [3, 4])
        self.assertEqual(work.do(1, ("make", 1, (None,))), [5])
        self.assertEqual(work.holes(), [5, 3, 4])
        self.assertEqual(work.do(3, USE), [6, 7])
        self.assertEqual(work.holes(), [5, 6, 7, 4])
        self.assertEqual(len(work), 4)
        self.assertEqual(work.filled(), [(0, USE, [1, 2]), (1, ("make", 1, (None,)), [5]), (2, USE, [3, 4]), (3, USE, [6, 7])])
        self.assertIsInstance(work.filled()[0], tuple)
        self.assertEqual((work.deed(2), work.left(2), work.left(1)), (USE, [3, 4], [5]))
        self.assertEqual(work.do(5, give(ZERO)), [])
        self.assertEqual((work.holes(), work.left(5), work.deed(5)), ([6, 7, 4], [], give(ZERO)))

    def test_goals(self):
        work = Work(GROUND, every(NAT, every(NAT, ("same", NAT, A, B))))
        work.do(0, ("bring",))
        self.assertEqual(work.goal(1), ([NAT], every(NAT, ("same", NAT, A, B))))
        work.do(1, ("bring",))
        self.assertEqual(work.goal(2), ([NAT, NAT], ("same", NAT, A, B)))
        work.do(2, ("cut", ("same", NAT, B, A)))
        self.assertEqual([work.goal(hole) for hole in work.holes()],
                         [([NAT, NAT], ("same", NAT, B, A)), ([NAT, NAT, ("same", NAT, B, A)], ("same", NAT, B, C))])

    def test_what_is_no_open_hole(self):
        work = Work(GROUND, NAT)
        work.do(0, USE)
        work.do(1, USE)
        for thing in [*NOTHINGS, 0, 1, 5, 99, 10 ** 29, "0", (), (2,), nested("tuple", 60), Stranger()]:
            no_hole(self, thing, work.goal, thing)
            no_hole(self, thing, work.do, thing, None)
            no_hole(self, thing, work.do, thing, give(ZERO))

    def test_what_is_no_filled_hole(self):
        work = Work(GROUND, NAT)
        for thing in [0, 1]:
            for deed in (work.deed, work.left, work.undo):
                no_hole(self, thing, deed, thing)
        work.do(0, USE)
        work.do(1, USE)
        for thing in [*NOTHINGS, 2, 3, 4, 5, 10 ** 29, "0", (), (0,), nested("tuple", 60), Stranger()]:
            for deed in (work.deed, work.left, work.undo):
                no_hole(self, thing, deed, thing)
        self.assertEqual(work.holes(), [3, 4, 2])

    def test_a_truth_is_no_hole(self):
        work = Work(GROUND, NAT)
        no_hole(self, False, work.goal, False)
        no_hole(self, False, work.do, False, give(ZERO))
        work.do(0, USE)
        no_hole(self, True, work.goal, True)
        for deed in (work.deed, work.left, work.undo):
            no_hole(self, False, deed, False)
        self.assertEqual(work.holes(), [1, 2])

    def test_deeds_that_are_refused_change_nothing(self):
        work = Work(GROUND, NAT)
        work.do(0, USE)
        ahead = work.twin()
        for thing in NO_DEEDS:
            refused(self, NoDeed, thing, work.do, 2, thing)
        for deed in [("bring",), give(SUCC), ("split", 0), ("make", 5, ()), ("use", SUCC, (None, None))]:
            refused(self, NoFit, deed, work.do, 1, deed)
        refused_as(self, PaperError, NoPaper, {"spot": (1,), "why": "unlike"}, work.do, 1, give(app(SUCC, NAT)))
        self.assertEqual(work, ahead)
        self.assertEqual(work.holes(), [1, 2])
        self.assertEqual(work.do(1, USE), [3, 4])

    def test_a_work_in_a_room(self):
        room = [K, A]
        work = Work(GROUND, B, room)
        room[0] = NAT
        self.assertEqual(work.goal(0), ([K, A], B))
        work.do(0, give(A))
        self.assertEqual(work.paper(), A)
        self.assertTrue(settles(GROUND, [K, A], work.paper(), B))


class Undone(unittest.TestCase):
    def test_all_beneath_is_there_no_more(self):
        work = Work(GROUND, NAT)
        work.do(0, USE)
        work.do(1, USE)
        work.do(3, USE)
        work.do(4, give(ZERO))
        work.do(2, give(ONE))
        goal = work.goal(5)
        self.assertEqual(work.undo(1), [1])
        self.assertEqual((work.holes(), work.filled()), ([1], [(0, USE, [1, 2]), (2, give(ONE), [])]))
        self.assertEqual(work.goal(1), goal)
        for hole in (3, 4, 5, 6):
            for deed in (work.goal, work.deed, work.left, work.undo):
                no_hole(self, hole, deed, hole)
        # Numbers are never given twice.
        self.assertEqual(work.do(1, USE), [7, 8])
        self.assertEqual(work.undo(0), [0])
        self.assertEqual((work.holes(), work.filled(), work.goal(0)), ([0], [], ([], NAT)))
        self.assertEqual(work.do(0, USE), [9, 10])

    def test_a_hole_beneath_a_filled_one(self):
        work = Work(GROUND, NAT)
        work.do(0, ("make", 1, (None,)))
        work.do(1, ("make", 1, (None,)))
        work.do(2, give(ZERO))
        self.assertEqual(work.paper(), TWO)
        self.assertEqual(work.undo(2), [2])
        self.assertEqual(work.deed(0), ("make", 1, (None,)))
        is_open(self, [2], work.paper)
        work.do(2, give(ONE))
        self.assertEqual(work.paper(), number(3))
        self.assertEqual(work.undo(1), [1])
        self.assertEqual(work.do(1, give(ZERO)), [])
        self.assertEqual(work.paper(), ONE)

    def test_undone_as_it_was(self):
        work = Work(GROUND, NAT)
        work.do(0, USE)
        ahead = work.twin()
        for deed in [USE, give(ZERO), ("steps",), ("cut", NAT), ("turn", NAT)]:
            work.do(2, deed)
            self.assertNotEqual(work, ahead)
            self.assertEqual(work.undo(2), [1, 2])
            self.assertEqual(work, ahead)

    def test_undone_in_any_order(self):
        for order in permutations([1, 2, 4]):
            work = Work(GROUND, NAT)
            work.do(0, USE)
            work.do(1, ("steps",))
            work.do(2, USE)
            work.do(4, ("steps",))
            for hole in order:
                if hole == 4 and 2 in order[:order.index(4)]:
                    no_hole(self, 4, work.undo, 4)
                else:
                    work.undo(hole)
            self.assertEqual((work.holes(), work.filled()), ([1, 2], [(0, USE, [1, 2])]))


class Papers(unittest.TestCase):
    def test_open_holes(self):
        work = Work(GROUND, NAT)
        is_open(self, [0], work.paper)
        work.do(0, USE)
        work.do(1, USE)
        is_open(self, [3, 4, 2], work.paper)
        for hole in (3, 4, 2):
            work.do(hole, give(ZERO))
        self.assertEqual((len(work), bool(work), work.holes()), (0, False, []))
        self.assertEqual(work.paper(), app(("name", "plus"), app(("name", "plus"), ZERO, ZERO), ZERO))

    def test_in_whatever_order_holes_are_filled(self):
        plan = {(): ("bring",), (0,): ("split", 0), (0, 0): ("turn", read("same nat (@plus nat#0 nat#0) nat#0")),
                (0, 0, 0): give(("self", NAT, ZERO)), (0, 1): ("cut", NAT), (0, 1, 0): USE, (0, 1, 0, 0): give(B), (0, 1, 0, 1): give(ZERO),
                (0, 1, 1): ("put", TURNED), (0, 1, 1, 0): give(("self", NAT, app(SUCC, at(2))))}
        papers, orders = [], []
        for seed in range(20):
            chance = random.Random(seed)
            work, ways, order = Work(GROUND, ENDS), {0: ()}, []
            while work:
                hole = chance.choice(work.holes())
                order.append(ways[hole])
                for number_left, left in enumerate(work.do(hole, plan[ways[hole]])):
                    ways[left] = (*ways[hole], number_left)
            papers.append(work.paper())
            orders.append(order)
        self.assertGreater(len({tuple(order) for order in orders}), 10)
        self.assertEqual(papers, papers[:1] * 20)
        self.assertTrue(settles(GROUND, [], papers[0], ENDS))
        self.assertEqual(saying_by_worths(GROUND, [], papers[0]), saying_of(GROUND, [], papers[0]))

    def test_a_development(self):
        work = Work(GROUND, ENDS)
        self.assertEqual(work.do(0, ("bring",)), [1])
        self.assertEqual(work.do(1, ("split", 0)), [2, 3])
        work.do(2, give(("self", NAT, ZERO)))
        # What holds of the number ahead is put into what is asked of the next one.
        self.assertEqual(work.do(3, ("put", TURNED_AT_HAND)), [4])
        self.assertEqual(work.goal(4)[1], ("same", NAT, app(SUCC, B), app(SUCC, B)))
        work.do(4, give(("self", NAT, app(SUCC, B))))
        self.assertFalse(work)
        self.assertTrue(settles(GROUND, [], work.paper(), ENDS))
        saying = "same nat (nat!0 (fun x1 : nat . nat) nat#0 (fun x1 : nat . fun x2 : nat . nat#1 x2) x0) x0"
        motive = "fun x1 : nat . " + saying.replace("x2", "x3").replace("x1", "x2").replace("x0", "x1")
        held = "fun x2 : " + saying.replace("x2", "x3").replace("x1", "x2").replace("x0", "x1")
        turned = ("put (fun x3 : nat . same nat x3 (@plus x1 nat#0)) x2 (self nat (@plus x1 nat#0))")
        step = f"fun x1 : nat . {held} . put (fun x3 : nat . same nat (nat#1 x3) (nat#1 x1)) ({turned}) (self nat (nat#1 x1))"
        self.assertEqual(work.paper(), read(f"fun x0 : nat . nat!0 ({motive}) (self nat nat#0) ({step}) x0"))

    def test_a_row_of_two_hundred_holes(self):
        work = Work(GROUND, NAT)
        hole = 0
        for _ in range(199):
            hole, = work.do(hole, ("make", 1, (None,)))
        work.do(hole, give(ZERO))
        self.assertEqual(work.paper(), number(199))
        self.assertEqual(work.undo(0), [0])


class Twins(unittest.TestCase):
    def begun(self):
        work = Work(GROUND, NAT)
        work.do(0, USE)
        work.do(1, USE)
        work.undo(1)
        return work

    def test_each_goes_its_own_way(self):
        work = self.begun()
        other = work.twin()
        self.assertEqual(other, work)
        self.assertIsInstance(other, Work)
        self.assertEqual((other.holes(), other.filled(), other.ground(), other.goal(1)),
                         (work.holes(), work.filled(), work.ground(), work.goal(1)))
        # Numbers go on as they do there.
        self.assertEqual(other.do(1, USE), [5, 6])
        self.assertEqual(work.holes(), [1, 2])
        self.assertEqual(work.do(2, ("steps",)), [5])
        self.assertEqual((work.holes(), other.holes()), ([1, 5], [5, 6, 2]))
        other.undo(0)
        self.assertEqual((work.holes(), other.holes()), ([1, 5], [0]))
        self.assertEqual([work.goal(hole) for hole in (1, 5)], [([], NAT)] * 2)
        for hole in (1, 2, 5, 6):
            no_hole(self, hole, other.goal, hole)
        no_hole(self, 6, work.goal, 6)

    def test_put_back(self):
        work = self.begun()
        ahead = work.twin()
        work.do(1, give(ZERO))
        work.do(2, USE)
        self.assertEqual(work.put_back(ahead), [1, 2])
        self.assertEqual(work, ahead)
        # What was left since is there no more.
        for hole in range(3, 9):
            for deed in (work.goal, work.deed, work.left, work.undo):
                no_hole(self, hole, deed, hole)
            no_hole(self, hole, work.do, hole, give(ZERO))
        self.assertEqual([work.goal(hole) for hole in (1, 2)], [([], NAT)] * 2)
        # Numbers given since are given again.
        self.assertEqual(work.do(1, USE), [5, 6])
        self.assertEqual((ahead.holes(), ahead.filled()), ([1, 2], [(0, USE, [1, 2])]))
        self.assertEqual(ahead.do(2, USE), [5, 6])
        self.assertEqual(work.holes(), [5, 6, 2])
        self.assertEqual(work.put_back(ahead), [1, 5, 6])
        self.assertEqual(work.do(6, ("steps",)), [7])
        self.assertEqual(ahead.holes(), [1, 5, 6])
        self.assertEqual(ahead.put_back(work), [1, 5, 7])

    def test_twins_of_twins(self):
        work = self.begun()
        other = work.twin().twin()
        other.do(2, give(ZERO))
        other.do(1, ("steps",))
        self.assertEqual(work.put_back(other), [5])
        self.assertEqual(work, other)
        self.assertEqual(other.put_back(work), [5])
        self.assertEqual(work.put_back(work), [5])
        work.do(5, give(ZERO))
        self.assertEqual(work.paper(), app(("name", "plus"), ZERO, ZERO))
        is_open(self, [5], other.paper)

    def test_put_back_ahead_of_all(self):
        work = Work(GROUND, B, [K, A])
        ahead = work.twin()
        work.do(0, ("cut", K))
        self.assertEqual(work.put_back(ahead), [0])
        self.assertEqual(work.goal(0), ([K, A], B))
        self.assertEqual(work.do(0, ("cut", K)), [1, 2])


class Equal(unittest.TestCase):
    def test_equal_works(self):
        self.assertTrue(Work(GROUND, NAT) == Work(Ground(ROWS), NAT))
        self.assertTrue(Work(GROUND, B, [K, A]) == Work(GROUND, B, (K, A)))
        self.assertTrue(Work(GROUND, NAT) == Work(GROUND, NAT, []))
        one, other = Work(GROUND, NAT), Work(GROUND, NAT)
        one.do(0, USE)
        self.assertFalse(one == other)
        self.assertTrue(one != other)
        other.do(0, USE)
        self.assertTrue(one == other)
        one.do(1, give(ZERO))
        one.do(2, give(ONE))
        other.do(2, give(ONE))
        other.do(1, give(ZERO))
        self.assertTrue(one == other)
        other.undo(1)
        other.do(1, give(ONE))
        self.assertFalse(one == other)

    def test_the_number_to_be_given_next_plays_no_part(self):
        one, other = Work(GROUND, NAT), Work(GROUND, NAT)
        one.do(0, USE)
        one.undo(0)
        self.assertTrue(one == other)
        self.assertEqual(one.do(0, USE), [3, 4])
        other.do(0, USE)
        # Here the numbers aren't the same.
        self.assertFalse(one == other)

    def test_unlike_in_one_thing(self):
        self.assertFalse(Work(GROUND, NAT) == Work(Ground([NATS]), NAT))
        self.assertFalse(Work(GROUND, NAT) == Work(GROUND, ("name", "nums")))
        self.assertFalse(Work(GROUND, NAT) == Work(GROUND, NAT, [NAT]))
        one, other = Work(GROUND, NAT), Work(GROUND, NAT)
        one.do(0, give(ZERO))
        other.do(0, ("use", ZERO, ()))
        self.assertEqual(one.paper(), other.paper())
        self.assertFalse(one == other)

    def test_to_nothing_else(self):
        work = Work(GROUND, NAT)
        for thing in [*NOTHINGS, 0, 1, [0], (GROUND, NAT), NAT, GROUND, Stranger()]:
            self.assertIs(work == thing if not isinstance(thing, Stranger) else work.__eq__(thing), False)


class HandedAndTold(unittest.TestCase):
    def test_told_lists_are_the_askers_own(self):
        work = Work(GROUND, every(NAT, NAT), [K])
        spoil(work.do(0, ("bring",)))
        spoil(work.do(1, USE))
        for call in (work.holes, work.filled, lambda: work.goal(2), lambda: work.left(1), lambda: work.deed(1), work.twin().holes):
            ahead = call()
            told = call()
            spoil(told)
            self.assertEqual(call(), ahead)
            self.assertEqual(call(), call())
        spoil(work.put_back(work.twin()))
        self.assertEqual(work.holes(), [2, 3])
        with self.assertRaises(Open) as caught:
            work.paper()
        spoil(caught.exception.found)
        spoil(work.undo(1))
        self.assertEqual((work.holes(), work.goal(1)), ([1], ([K, NAT], NAT)))
        work.do(1, give(A))
        self.assertEqual(work.paper(), fun(NAT, A))
        self.assertEqual(work.holes(), [])

    def test_the_ground_is_kept(self):
        rows = [NATS, LIST]
        ground = Ground(rows)
        work = Work(ground, NAT)
        rows.append(PLUS)
        self.assertEqual(work.ground(), Ground([NATS, LIST]))
        self.assertEqual(ground.rows(), [NATS, LIST])


if __name__ == "__main__":
    unittest.main()
