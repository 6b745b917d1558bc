"""Points 51 to 53: what is told by worths, the class Worth, and givers."""

import unittest
from kernelpapers.errors import NoFit, NoGround, NoPaper, NoRoom, NoTerm, PaperError
from kernelpapers.grounds import Ground
from kernelpapers.kernel import saying_of
from kernelpapers.steps import worked
from kernelpapers.worths import Worth, giver, saying_by_worths, worked_by_worths
from goods import FLAG, GROUND, LISTED, MORE, NIL, NODE, ROWS, TREED, YES, NO, feed, number
from samples import (A, B, C, K, NAT, NATS, NO_GROUNDS, NO_ROOMS, NO_TERMS, SUCC, TERMS, ZERO, Stranger, app, at, every, fun,
                     refused, refused_as)

EMPTY = Ground()
PLUS, TIMES = ("name", "plus"), ("name", "times")
FAULTS = [(at(0), (), "place"), (("kind", 5), (), "height"), (app(SUCC, NAT), (1,), "unlike"), (app(ZERO, ZERO), (0,), "all"),
          (fun(NAT, app(A, A)), (1, 0), "all"), (("name", "gone"), (), "name"), (("maker", "nat", 2), (), "maker"),
          (every(ZERO, K), (0,), "kind"), (("put", K, ZERO, K), (1,), "same")]


def fails(case, spot, why, deed, *given):
    refused_as(case, PaperError, NoPaper, {"spot": spot, "why": why}, deed, *given)


class WorkedByWorths(unittest.TestCase):
    def works(self, term, told, ground=GROUND):
        self.assertEqual(worked_by_worths(ground, term), told)
        self.assertEqual(worked(ground, term), told)

    def test_heads_that_stay(self):
        for term in [K, ("kind", 4), NAT, ZERO, SUCC, ("eater", "nat", 3), ("eater", "tree", 0), NIL, app(MORE, NAT),
                     app(MORE, NAT, ZERO), app(SUCC, ZERO), ("name", "belief"), app(("name", "belief"), ZERO), ("name", "some"),
                     every(K, every(A, B)), fun(K, fun(A, A)), ("same", NAT, ZERO, number(1)), ("self", NAT, ZERO),
                     app(LISTED, NAT), app(("eater", "nat", 0), fun(NAT, NAT), ZERO)]:
            self.works(term, term)

    def test_the_four_rules(self):
        self.works(app(fun(NAT, app(SUCC, A)), ZERO), number(1))
        self.works(("name", "nums"), NAT)
        self.works(("put", fun(NAT, NAT), ("self", NAT, ZERO), number(3)), number(3))
        self.works(feed(0, fun(NAT, NAT), ZERO, fun(NAT, fun(NAT, B)), number(3)), number(2))

    def test_in_parts_and_under_binders(self):
        two = app(PLUS, number(1), number(1))
        self.works(fun(NAT, app(PLUS, number(2), A)), fun(NAT, app(SUCC, app(SUCC, A))))
        self.works(every(NAT, ("same", NAT, app(PLUS, ZERO, A), two)), every(NAT, ("same", NAT, A, number(2))))
        self.works(app(("name", "belief"), two), app(("name", "belief"), number(2)))
        self.works(("self", NAT, two), ("self", NAT, number(2)))
        self.works(fun(app(fun(K, A), NAT), fun(NAT, app(fun(NAT, C), A))), fun(NAT, fun(NAT, B)))
        self.works(app(MORE, ("name", "nums"), two, app(NIL, app(fun(NAT, NAT), ZERO))),
                   app(MORE, NAT, number(2), app(NIL, NAT)))

    def test_what_is_stuck(self):
        motive, step = fun(NAT, NAT), fun(NAT, fun(NAT, app(SUCC, A)))
        # On a place, on a hold, on an eater of what is stuck, on a put of what is no self.
        self.works(fun(NAT, app(PLUS, A, ZERO)), fun(NAT, feed(0, motive, ZERO, step, A)))
        self.works(app(PLUS, ("name", "some"), ZERO), feed(0, motive, ZERO, step, ("name", "some")))
        self.works(app(PLUS, app(PLUS, ("name", "some"), ZERO), ZERO),
                   feed(0, motive, ZERO, step, feed(0, motive, ZERO, step, ("name", "some"))))
        put = ("put", fun(NAT, NAT), app(("name", "belief"), ZERO), app(PLUS, ZERO, ZERO))
        self.works(app(SUCC, put), app(SUCC, ("put", fun(NAT, NAT), app(("name", "belief"), ZERO), ZERO)))
        settled = ("same", NAT, ZERO, number(1))
        self.works(fun(settled, ("put", fun(NAT, NAT), A, app(PLUS, ZERO, ZERO))), fun(settled, ("put", fun(NAT, NAT), A, ZERO)))
        told = fun(every(NAT, NAT), app(A, ZERO))
        self.works(fun(every(NAT, NAT), app(A, app(told, SUCC))), fun(every(NAT, NAT), app(A, number(1))))

    def test_an_eater_of_a_stuck_eater_that_is_given_as_many_as_a_maker(self):
        trio = ("thing", "trio")
        ground = Ground([NATS, ("thing", "trio", 0, (), ((NAT, NAT, NAT),)), ("hold", "three", trio)])
        head = app(("eater", "trio", 0), fun(trio, trio), ("maker", "trio", 0))
        term = app(head, app(head, ("name", "three")))
        self.works(term, term, ground)
        made = app(("maker", "trio", 0), ZERO, number(1), number(2))
        self.works(app(head, app(head, made)), made, ground)

    def test_an_eater_given_more_than_enough(self):
        motive = fun(NAT, every(NAT, NAT))
        adds = feed(0, motive, fun(NAT, A), fun(NAT, fun(every(NAT, NAT), fun(NAT, app(SUCC, app(B, A))))), number(2))
        self.works(app(adds, number(3)), number(5))
        stuck = feed(0, motive, fun(NAT, A), fun(NAT, fun(every(NAT, NAT), A)), ("name", "some"))
        self.works(app(stuck, app(PLUS, ZERO, ZERO)), app(stuck, ZERO))

    def test_an_eater_of_what_has_sayings_between(self):
        tree = app(TREED, FLAG, fun(FLAG, FLAG))
        # A tree that a hold ends, which is told of the y that was come to it by.
        ground = Ground([*ROWS, ("hold", "ends", every(FLAG, tree))])
        told = app(("eater", "tree", 0), FLAG, fun(FLAG, FLAG), fun(tree, NAT),
                   fun(FLAG, fun(every(FLAG, tree), fun(every(FLAG, NAT), app(SUCC, app(A, YES))))))
        made = app(NODE, FLAG, fun(FLAG, FLAG), NO, fun(FLAG, app(NODE, FLAG, fun(FLAG, FLAG), NO, fun(FLAG, app(("name", "ends"), B)))))
        self.works(app(told, made), app(SUCC, app(SUCC, app(told, app(("name", "ends"), YES)))), ground)
        self.assertEqual(saying_by_worths(ground, [], app(told, made)), NAT)

    def test_sayings_between_that_mean_one_another(self):
        bounds = [FLAG, fun(FLAG, NAT)]
        wide = app(("thing", "wide"), *bounds)
        end = app(("maker", "wide", 0), *bounds)
        same = ("same", NAT, A, A)
        own = every(NAT, every(same, wide))
        last = every(FLAG, wide)
        # All that a step is handed is told again, as an app of a hold, so that it is seen how it comes.
        every_step = every(FLAG, every(own, every(last, every(every(NAT, every(same, NAT)), every(every(FLAG, NAT), NAT)))))
        ground = Ground([*ROWS, ("hold", "step", every_step)])
        head = app(("eater", "wide", 0), *bounds, fun(wide, NAT), number(4), ("name", "step"), fun(NAT, fun(wide, fun(NAT, C))))
        many, few = fun(NAT, fun(same, app(("maker", "wide", 2), *bounds, app(SUCC, B), end))), fun(FLAG, end)
        made = app(("maker", "wide", 1), *bounds, YES, many, few)
        told = app(("name", "step"), YES, many, few, fun(NAT, fun(same, app(SUCC, B))), fun(FLAG, number(4)))
        self.works(app(head, made), told, ground)
        self.assertEqual(saying_by_worths(ground, [], app(head, made)), NAT)

    def test_what_is_thrown_away_is_not_reckoned(self):
        # Many products of products are more than could be reckoned here.
        much = number(4)
        for _ in range(8):
            much = app(TIMES, much, much)
        self.works(app(fun(NAT, ZERO), much), ZERO)
        self.works(("put", fun(NAT, NAT), ("self", NAT, much), ZERO), ZERO)
        self.works(feed(0, app(fun(NAT, fun(NAT, NAT)), much), ZERO, fun(NAT, fun(NAT, B)), number(1)), ZERO)

    def test_refused(self):
        for thing in NO_GROUNDS:
            refused(self, NoGround, thing, worked_by_worths, thing, None)
        for thing in NO_TERMS:
            refused(self, NoTerm, thing, worked_by_worths, GROUND, thing)
        for term, spot, why in FAULTS:
            fails(self, spot, why, worked_by_worths, GROUND, term)

    def test_by_names(self):
        self.assertEqual(worked_by_worths(term=app(PLUS, ZERO, ZERO), ground=GROUND), ZERO)

    def test_thirty_makers_and_more_within_one_another(self):
        self.works(app(PLUS, number(30), number(30)), number(60))
        self.works(app(PLUS, number(150), number(45)), number(195))
        self.works(app(TIMES, number(12), number(12)), number(144))

    def test_two_hundred_within_one_another(self):
        term = told = app(PLUS, ZERO, ZERO)
        for _ in range(190):
            term = fun(NAT, term)
        told = ZERO
        for _ in range(190):
            told = fun(NAT, told)
        self.works(term, told)

    def test_large_terms(self):
        bin_, leaf, fork = ("thing", "bin"), ("maker", "bin", 0), ("maker", "bin", 1)
        ground = Ground([("thing", "bin", 0, (), ((), (bin_, bin_)))])
        term = told = leaf
        for _ in range(11):
            term = app(fun(bin_, app(fork, A, A)), term)
            told = app(fork, told, told)
        self.works(term, told, ground)
        self.works(told, told, ground)
        self.assertEqual(saying_by_worths(ground, [], told), bin_)
        self.assertEqual(saying_by_worths(ground, [], ("self", bin_, term)), ("same", bin_, told, told))


class SayingByWorths(unittest.TestCase):
    def test_refused(self):
        for thing in NO_GROUNDS:
            refused(self, NoGround, thing, saying_by_worths, thing, None, None)
        for thing in NO_ROOMS:
            refused(self, NoRoom, thing, saying_by_worths, GROUND, thing, None)
        for thing in NO_TERMS:
            refused(self, NoTerm, thing, saying_by_worths, GROUND, (), thing)
        for term, spot, why in FAULTS:
            fails(self, spot, why, saying_by_worths, GROUND, [], term)

    def test_by_names(self):
        self.assertEqual(saying_by_worths(term=A, room=(K, A), ground=GROUND), B)

    def test_in_a_room_of_twelve(self):
        room = [K, *[every(at(place), at(place + 1)) for place in range(11)]]
        for place in range(12):
            self.assertEqual(saying_by_worths(GROUND, room, at(place)), saying_of(GROUND, room, at(place)))
        term = fun(at(11), app(B, A))
        self.assertEqual(saying_by_worths(GROUND, room, term), every(at(11), at(12)))


    def test_places_that_mean_nothing_are_told_as_they_are(self):
        # Such a room isn't sound, so nothing is promised; but what is told is what the kernel tells.
        for room in ([at(3)], [at(0), every(at(2), app(B, at(7)))], [every(at(4), B), at(9)]):
            for term in (A, at(len(room) - 1), fun(K, B), fun(NAT, fun(NAT, C))):
                self.assertEqual(saying_by_worths(GROUND, room, term), saying_of(GROUND, room, term))


class Worths(unittest.TestCase):
    def test_term_saying_and_ground(self):
        worth = Worth(GROUND, app(fun(NAT, ("self", NAT, app(PLUS, A, ZERO))), number(2)))
        self.assertEqual(worth.term(), ("self", NAT, number(2)))
        self.assertEqual(worth.saying(), ("same", NAT, number(2), number(2)))
        self.assertEqual(worth.ground(), GROUND)
        self.assertIs(worth.ground().__class__, Ground)
        self.assertEqual(Worth(term=K, ground=EMPTY).saying(), ("kind", 1))

    def test_given_another_one(self):
        plus, two, three = Worth(GROUND, PLUS), Worth(GROUND, number(2)), Worth(GROUND, number(3))
        told = plus.to(two)
        self.assertIs(told.__class__, Worth)
        self.assertEqual(told.saying(), every(NAT, NAT))
        self.assertEqual(told.term(), worked(GROUND, app(PLUS, number(2))))
        self.assertEqual(told.to(other=three).term(), number(5))
        self.assertEqual(told.to(three).saying(), NAT)
        self.assertEqual(told.to(three).ground(), GROUND)
        # None of them is changed.
        self.assertEqual(plus, Worth(GROUND, PLUS))
        self.assertEqual(two.term(), number(2))

    def test_what_it_says_depends_on_what_it_is_given(self):
        told = Worth(GROUND, ("name", "belief")).to(Worth(GROUND, number(3)))
        self.assertEqual(told.saying(), ("same", NAT, number(3), number(3)))
        self.assertEqual(Worth(GROUND, ("name", "id")).to(Worth(GROUND, FLAG)).saying(), every(FLAG, FLAG))

    def test_of_an_equal_ground(self):
        other = Worth(Ground(list(ROWS)), ZERO)
        self.assertEqual(Worth(GROUND, SUCC).to(other).term(), number(1))

    def test_given_what_is_no_worth(self):
        worth = Worth(GROUND, SUCC)
        for thing in [*NO_TERMS, *TERMS, ZERO, GROUND, Stranger()]:
            refused(self, NoTerm, thing, worth.to, thing)

    def test_given_a_worth_of_another_ground(self):
        worth = Worth(GROUND, SUCC)
        for ground in (Ground([NATS]), Ground(ROWS[:-1]), Ground([*ROWS[:-2], ROWS[-1], ROWS[-2]])):
            other = Worth(ground, ZERO)
            refused(self, NoGround, other, worth.to, other)
            # It goes ahead of what the kernel refuses.
            refused(self, NoGround, other, Worth(GROUND, ZERO).to, other)
        other = Worth(EMPTY, K)
        refused(self, NoGround, other, worth.to, other)

    def test_given_what_the_kernel_refuses(self):
        fails(self, (0,), "all", Worth(GROUND, ZERO).to, Worth(GROUND, ZERO))
        fails(self, (1,), "unlike", Worth(GROUND, SUCC).to, Worth(GROUND, YES))
        fails(self, (0,), "all", Worth(GROUND, NAT).to, Worth(GROUND, YES))

    def test_refused(self):
        for thing in NO_GROUNDS:
            refused(self, NoGround, thing, Worth, thing, None)
        for thing in NO_TERMS:
            refused(self, NoTerm, thing, Worth, GROUND, thing)
        for term, spot, why in FAULTS:
            fails(self, spot, why, Worth, GROUND, term)

    def test_equal(self):
        four = Worth(GROUND, number(4))
        self.assertEqual(four, Worth(GROUND, app(TIMES, number(2), number(2))))
        self.assertEqual(four, Worth(Ground(tuple(ROWS)), app(PLUS, number(1), number(3))))
        self.assertFalse(four != Worth(GROUND, number(4)))
        self.assertNotEqual(four, Worth(GROUND, number(3)))
        self.assertNotEqual(four, Worth(Ground([NATS]), number(4)))
        self.assertNotEqual(Worth(GROUND, YES), Worth(GROUND, NO))
        self.assertNotEqual(Worth(GROUND, SUCC), Worth(GROUND, fun(NAT, app(SUCC, A))))
        self.assertEqual(four, four)

    def test_equal_to_nothing_else(self):
        worth = Worth(GROUND, ZERO)
        for thing in [*NO_TERMS, *TERMS, ZERO, NAT, GROUND, EMPTY, worth.term(), [worth]]:
            self.assertIs(worth == thing, False)
            self.assertIs(worth != thing, True)
            self.assertIs(thing == worth, False)
        self.assertIs(worth.__eq__(Stranger()), False)


class Givers(unittest.TestCase):
    def test_by_hand(self):
        adds = giver(GROUND, app(PLUS, number(2)))
        for many in range(5):
            self.assertEqual(adds(number(many)), number(many + 2))
        self.assertEqual(adds(app(TIMES, number(2), number(2))), number(6))
        self.assertEqual(giver(GROUND, PLUS)(number(1)), worked(GROUND, app(PLUS, number(1))))
        self.assertEqual(giver(GROUND, ("name", "id"))(FLAG), fun(FLAG, A))
        self.assertEqual(giver(term=SUCC, ground=GROUND)(ZERO), number(1))
        self.assertEqual(giver(GROUND, ("name", "belief"))(app(PLUS, ZERO, ZERO)), app(("name", "belief"), ZERO))

    def test_it_may_be_kept_and_handed_on(self):
        givers = [giver(GROUND, term) for term in (SUCC, app(PLUS, number(3)), fun(NAT, A))]
        told = ZERO
        for deed in givers * 2:
            told = deed(told)
        self.assertEqual(told, number(8))
        self.assertEqual([deed(ZERO) for deed in givers], [number(1), number(3), ZERO])

    def test_a_saying_that_is_an_all_once_worked_out(self):
        ground = Ground([*ROWS, ("mean", "turns", K, every(NAT, NAT)), ("hold", "turn", ("name", "turns"))])
        self.assertEqual(giver(ground, ("name", "turn"))(ZERO), app(("name", "turn"), ZERO))

    def test_refused_as_the_kernel_refuses_the_app(self):
        deed = giver(GROUND, SUCC)
        for _ in range(2):
            for term, spot, why in FAULTS:
                fails(self, (1, *spot), why, deed, term)
            fails(self, (1,), "unlike", deed, NAT)
            fails(self, (1,), "unlike", deed, YES)
            for thing in NO_TERMS:
                refused(self, NoTerm, thing, deed, thing)
            self.assertEqual(deed(ZERO), number(1))

    def test_another_saying(self):
        for term in [ZERO, NAT, K, every(NAT, NAT), ("self", NAT, ZERO), app(SUCC, ZERO), app(NIL, NAT)]:
            refused(self, NoFit, term, giver, GROUND, term)

    def test_no_saying(self):
        for term, spot, why in FAULTS:
            fails(self, spot, why, giver, GROUND, term)

    def test_no_ground_no_term(self):
        for thing in NO_GROUNDS:
            refused(self, NoGround, thing, giver, thing, None)
        for thing in NO_TERMS:
            refused(self, NoTerm, thing, giver, GROUND, thing)


if __name__ == "__main__":
    unittest.main()
