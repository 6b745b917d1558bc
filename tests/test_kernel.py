"""Points 41 to 43: the sayings of the twelve words, the least spot and the word where a term fails."""

import unittest
from kernelpapers.errors import NoGround, NoPaper, NoRoom, NoTerm, PaperError, Tired
from kernelpapers.grounds import Ground
from kernelpapers.kernel import saying_of, settles
from kernelpapers.terms import changed, raised, size
from kernelpapers.things import eater_saying, maker_saying, thing_saying
from kernelpapers.worths import saying_by_worths
from goods import (CODES, FLAG, GROUND, LISTED, MORE, NIL, NODE, ORDS, TREED, WIDE, YES, by_places, feed, number, var)
from samples import (A, B, C, K, LIST, NAT, NATS, NO_GROUNDS, NO_ROOMS, NO_TERMS, SUCC, TREE, ZERO, app, at, every, fun, refused,
                     refused_as)

EMPTY = Ground()
PLUS = ("name", "plus")


def kind(height):
    return ("kind", height)


class Checked(unittest.TestCase):
    """Both checkers are asked, each time."""

    def says(self, room, term, told, ground=GROUND):
        self.assertEqual(saying_of(ground, room, term), told)
        self.assertEqual(saying_by_worths(ground, room, term), told)

    def fails(self, room, term, spot, why, ground=GROUND):
        for checker in (saying_of, saying_by_worths):
            refused_as(self, PaperError, NoPaper, {"spot": spot, "why": why}, checker, ground, room, term)


class Places(Checked):
    def test_raised_by_the_place_and_one(self):
        room = [K, A, B, every(C, at(3))]
        self.says(room, at(3), K)
        self.says(room, at(2), at(3))
        self.says(room, at(1), at(3))
        self.says(room, at(0), every(at(3), at(4)))

    def test_worked_out(self):
        self.says([app(fun(K, A), NAT)], A, NAT)
        self.says([K, every(("name", "nums"), B)], A, every(NAT, C))
        self.says([("same", NAT, app(PLUS, number(1), number(1)), number(2))], A, ("same", NAT, number(2), number(2)))

    def test_none_there(self):
        self.fails([], A, (), "place")
        self.fails([K], B, (), "place")
        self.fails([K] * 12, at(12), (), "place")
        self.says([K] * 12, at(11), K)
        self.fails([K], at(10 ** 29), (), "place")
        self.fails([], fun(K, fun(A, C)), (1, 1), "place")


class Kinds(Checked):
    def test_the_kind_one_higher(self):
        for height in range(5):
            self.says([], kind(height), kind(height + 1))
        self.fails([], kind(5), (), "height")
        self.fails([], fun(K, kind(5)), (1,), "height")


class All(Checked):
    def test_the_higher_one_of_the_two_kinds(self):
        self.says([], every(K, A), kind(1))
        self.says([], every(kind(3), K), kind(4))
        self.says([], every(K, kind(4)), kind(5))
        self.says([], every(NAT, NAT), K)
        self.says([], every(NAT, kind(2)), kind(3))
        self.says([K, A], every(B, C), K)

    def test_what_has_no_kind(self):
        self.fails([], every(ZERO, NAT), (0,), "kind")
        self.fails([], every(NAT, ZERO), (1,), "kind")
        self.fails([NAT], every(A, NAT), (0,), "kind")
        self.fails([], every(NAT, A), (1,), "kind")
        self.fails([], every(SUCC, NAT), (0,), "kind")

    def test_a_fails_ahead_of_b(self):
        self.fails([], every(ZERO, ZERO), (0,), "kind")
        self.fails([], every(ZERO, at(7)), (0,), "kind")
        self.fails([], every(ZERO, kind(5)), (0,), "kind")
        self.fails([], every(at(7), kind(5)), (0,), "place")
        self.fails([], every(NAT, at(7)), (1,), "place")

    def test_a_kind_that_is_worked_out(self):
        self.says([], every(app(fun(kind(1), A), K), A), kind(1))
        self.says([], every(app(fun(NAT, NAT), ZERO), app(("name", "family"), A)), K)
        self.says([app(fun(kind(2), A), kind(1))], every(A, NAT), kind(1))


class Fun(Checked):
    def test_all_of_a_and_what_b_says(self):
        self.says([], fun(NAT, A), every(NAT, NAT))
        self.says([], fun(K, fun(A, A)), every(K, every(A, B)))
        self.says([K], fun(A, B), every(A, K))
        self.says([], fun(K, NAT), every(K, K))

    def test_worked_out(self):
        self.says([], fun(app(fun(K, A), NAT), A), every(NAT, NAT))
        self.says([], fun(("name", "nums"), app(fun(NAT, A), ZERO)), every(NAT, NAT))
        self.says([NAT], fun(NAT, ("self", NAT, app(PLUS, ZERO, B))), every(NAT, ("same", NAT, B, B)))

    def test_what_b_says_needs_no_kind_of_its_own(self):
        self.says([], fun(NAT, kind(4)), every(NAT, kind(5)))
        self.fails([], every(NAT, kind(5)), (1,), "height")

    def test_what_has_no_kind(self):
        self.fails([], fun(ZERO, A), (0,), "kind")
        self.fails([], fun(ZERO, at(9)), (0,), "kind")
        self.fails([], fun(app(SUCC, ZERO), kind(5)), (0,), "kind")
        self.fails([], fun(kind(5), kind(5)), (0,), "height")
        self.fails([], fun(NAT, app(A, A)), (1, 0), "all")


class App(Checked):
    def test_b_given_x(self):
        self.says([], app(SUCC, ZERO), NAT)
        self.says([], app(NIL, NAT), app(LISTED, NAT))
        self.says([K, every(A, K), at(1)], app(B, A), K)
        self.says([K, A], app(("name", "id"), B, A), B)
        self.says([], app(("name", "belief"), number(2)),
                  ("same", NAT, number(2), number(2)))

    def test_worked_out(self):
        self.says([], app(fun(NAT, ("self", NAT, A)), app(PLUS, number(1), number(1))), ("same", NAT, number(2), number(2)))
        self.says([], app(fun(every(NAT, K), fun(app(A, ZERO), A)), fun(NAT, FLAG)), every(FLAG, FLAG))

    def test_f_says_no_all(self):
        self.fails([], app(ZERO, ZERO), (0,), "all")
        self.fails([], app(SUCC, ZERO, ZERO), (0,), "all")
        self.fails([], app(every(NAT, NAT), ZERO), (0,), "all")
        self.fails([], app(("self", NAT, ZERO), ZERO), (0,), "all")

    def test_x_says_something_else(self):
        self.fails([], app(SUCC, NAT), (1,), "unlike")
        self.fails([], app(SUCC, YES), (1,), "unlike")
        self.fails([], app(fun(kind(1), A), NAT), (1,), "unlike")
        self.fails([K, K, A], app(fun(C, A), A), (1,), "unlike")

    def test_what_they_say_is_worked_out(self):
        self.says([("name", "nums")], app(SUCC, A), NAT)
        self.says([every(("name", "nums"), NAT)], app(A, ZERO), NAT)
        self.says([app(("name", "family"), number(1))], app(A, ZERO), NAT)
        self.fails([app(("name", "family"), number(0))], app(A, ZERO), (0,), "all")

    def test_what_fails_within_x_goes_ahead_of_all(self):
        self.fails([], app(ZERO, at(3)), (1,), "place")
        self.fails([], app(ZERO, app(SUCC, NAT)), (1, 1), "unlike")
        self.fails([], app(ZERO, app(ZERO, ZERO)), (1, 0), "all")
        # And f's all goes ahead of x's saying, and what fails within f ahead of all.
        self.fails([], app(ZERO, NAT), (0,), "all")
        self.fails([], app(app(SUCC, NAT), at(3)), (0, 1), "unlike")
        self.fails([], app(app(ZERO, ZERO), at(3)), (0, 0), "all")


class Heads(Checked):
    def test_names(self):
        self.says([], PLUS, every(NAT, every(NAT, NAT)))
        self.says([], ("name", "some"), NAT)
        self.says([], ("name", "nums"), K)
        self.says([], ("name", "id"), every(K, every(A, B)))

    def test_what_a_name_says_is_worked_out(self):
        told = ("same", NAT, feed(0, fun(NAT, NAT), ZERO, fun(NAT, fun(NAT, app(SUCC, A))), A), A)
        self.says([], ("name", "belief"), every(NAT, told))
        ground = Ground([NATS, ("mean", "nums", K, NAT), ("mean", "two", ("name", "nums"), number(2)),
                         ("hold", "any", app(fun(K, A), ("name", "nums")))])
        self.says([], ("name", "two"), NAT, ground)
        self.says([], ("name", "any"), NAT, ground)

    def test_in_a_room_they_say_the_same(self):
        self.says([K, A], ("name", "id"), every(K, every(A, B)))
        self.says([K, A], ("eater", "bool", 0), eater_saying(("thing", "bool", 0, (), ((), ())), 0))

    def test_no_such_name(self):
        for name in ("gone", "nat", "list", "none"):
            self.fails([], ("name", name), (), "name")
        for word in (("thing",), ("maker", 0), ("eater", 0), ("maker", 9), ("eater", 5)):
            for name in ("gone", "plus", "belief", "some"):
                self.fails([], (word[0], name, *word[1:]), (), "name")
        self.fails([], fun(NAT, app(SUCC, ("thing", "gone"))), (1, 1), "name")

    def test_things(self):
        for row in (NATS, LIST, TREE, ORDS, WIDE, CODES):
            self.says([], ("thing", row[1]), thing_saying(row))
        self.says([], TREED, every(K, every(every(A, K), kind(1))))

    def test_makers(self):
        for row in (NATS, LIST, TREE, ORDS, WIDE, CODES):
            for many in range(len(row[4])):
                self.says([], ("maker", row[1], many), maker_saying(row, many))
            for many in (len(row[4]), 99, 10 ** 29):
                self.fails([], ("maker", row[1], many), (), "maker")
        self.fails([], ("maker", "none", 0), (), "maker")

    def test_eaters_into_several_heights(self):
        for row in (NATS, LIST, TREE, ORDS, WIDE, CODES):
            for height in range(5):
                self.says([], ("eater", row[1], height), eater_saying(row, height))
            self.fails([], ("eater", row[1], 5), (), "height")

    def test_what_an_eater_is_given(self):
        self.says([], feed(0, fun(NAT, NAT), ZERO, fun(NAT, fun(NAT, A)), ZERO), NAT)
        self.says([], feed(1, fun(NAT, K), NAT, fun(NAT, fun(K, A)), ZERO), K)
        self.says([], app(("eater", "none", 0), fun(("thing", "none"), NAT)), every(("thing", "none"), NAT))
        # The motive's kind is that of the height, no other one.
        self.fails([], app(("eater", "nat", 1), fun(NAT, NAT)), (1,), "unlike")
        self.fails([], app(("eater", "nat", 0), fun(NAT, K)), (1,), "unlike")
        self.fails([], feed(0, fun(NAT, NAT), YES, fun(NAT, fun(NAT, A)), ZERO), (0, 0, 1), "unlike")
        self.fails([], feed(0, fun(NAT, NAT), ZERO, fun(NAT, fun(NAT, YES)), ZERO), (0, 1), "unlike")

    def test_what_makers_are_given(self):
        tree = app(NODE, FLAG, fun(FLAG, NAT), YES)
        own = every(NAT, app(TREED, FLAG, fun(FLAG, NAT)))
        self.says([], tree, every(own, app(TREED, FLAG, fun(FLAG, NAT))))
        self.says([], app(MORE, NAT, ZERO, app(NIL, NAT)), app(LISTED, NAT))
        self.fails([], app(MORE, NAT, YES, app(NIL, NAT)), (0, 1), "unlike")
        self.fails([], app(MORE, NAT, ZERO, app(NIL, FLAG)), (1,), "unlike")


class Same(Checked):
    def test_the_kind_of_a(self):
        self.says([], ("same", NAT, ZERO, number(3)), K)
        self.says([], ("same", K, NAT, FLAG), kind(1))
        self.says([], ("same", kind(4), kind(3), kind(3)), kind(5))
        self.says([K, A], ("same", B, A, A), K)

    def test_what_fails(self):
        self.fails([], ("same", ZERO, ZERO, ZERO), (0,), "kind")
        self.fails([], ("same", NAT, NAT, ZERO), (1,), "unlike")
        self.fails([], ("same", NAT, ZERO, NAT), (2,), "unlike")

    def test_in_order(self):
        # a ahead of x, x ahead of y, each wholly.
        self.fails([], ("same", ZERO, at(5), at(5)), (0,), "kind")
        self.fails([], ("same", NAT, NAT, at(5)), (1,), "unlike")
        self.fails([], ("same", NAT, at(5), NAT), (1,), "place")
        self.fails([], ("same", NAT, ZERO, at(5)), (2,), "place")
        self.fails([], ("same", NAT, NAT, NAT), (1,), "unlike")
        self.fails([], ("same", at(5), NAT, NAT), (0,), "place")

    def test_worked_out(self):
        self.says([], ("same", ("name", "nums"), ZERO, app(PLUS, ZERO, ZERO)), K)
        self.says([("name", "nums")], ("same", NAT, A, A), K)


class Self(Checked):
    def test_the_same_of_itself(self):
        self.says([], ("self", NAT, ZERO), ("same", NAT, ZERO, ZERO))
        self.says([], ("self", K, NAT), ("same", K, NAT, NAT))
        self.says([], ("self", ("name", "nums"), app(PLUS, number(1), number(1))), ("same", NAT, number(2), number(2)))
        self.says([K, A], ("self", B, A), ("same", B, A, A))

    def test_what_fails(self):
        self.fails([], ("self", ZERO, ZERO), (0,), "kind")
        self.fails([], ("self", ZERO, at(5)), (0,), "kind")
        self.fails([], ("self", NAT, NAT), (1,), "unlike")
        self.fails([], ("self", NAT, at(5)), (1,), "place")
        self.fails([], ("self", at(5), NAT), (0,), "place")


class Put(Checked):
    # p, e and x of numbers: in this room 0 settles that 2 is 1.
    room = [NAT, NAT, ("same", NAT, B, A)]
    told = fun(NAT, ("same", NAT, at(3), A))

    def test_p_given_v(self):
        # Of 2 being 2 it is told that 2 is 1.
        self.says(self.room, ("put", self.told, A, ("self", NAT, C)), ("same", NAT, C, B))
        self.says(self.room, ("put", fun(NAT, K), A, NAT), K)
        self.says([], ("put", fun(NAT, NAT), ("self", NAT, ZERO), number(3)), NAT)

    def test_what_p_is_of_is_a_kind_of_any_height(self):
        self.says([], ("put", fun(K, A), ("self", K, NAT), ZERO), NAT)
        self.says([], ("put", fun(NAT, kind(3)), ("self", NAT, ZERO), kind(2)), kind(3))

    def test_a_kind_that_comes_of_what_p_was_given(self):
        family = app(("name", "family"), K)
        ground = Ground([NATS, ("hold", "family", every(kind(1), every(NAT, B))), ("hold", "member", app(family, ZERO))])
        self.says([], family, every(NAT, K), ground)
        self.says([], ("put", family, ("self", NAT, ZERO), ("name", "member")), app(family, ZERO), ground)
        self.fails([], ("put", app(("name", "family"), NAT), ("self", NAT, ZERO), ("name", "member")), (0, 1), "unlike", ground)

    def test_e_says_no_same(self):
        self.fails(self.room, ("put", self.told, B, ("self", NAT, C)), (1,), "same")
        self.fails([], ("put", fun(NAT, NAT), ("same", NAT, ZERO, ZERO), ZERO), (1,), "same")
        self.fails([], ("put", fun(NAT, NAT), fun(NAT, ("self", NAT, A)), ZERO), (1,), "same")

    def test_p_says_no_all_of_a_and_a_kind(self):
        self.fails(self.room, ("put", NAT, A, ZERO), (0,), "all")
        self.fails(self.room, ("put", fun(FLAG, NAT), A, ZERO), (0,), "all")
        self.fails(self.room, ("put", fun(NAT, ZERO), A, ZERO), (0,), "all")
        self.fails(self.room, ("put", SUCC, A, ZERO), (0,), "all")
        self.fails(self.room, ("put", fun(NAT, fun(NAT, NAT)), A, ZERO), (0,), "all")
        self.fails(self.room, ("put", fun(K, NAT), A, ZERO), (0,), "all")
        # What it says has a and a kind as its first parts here, but it is a same.
        alike = ("self", kind(1), K)
        self.fails([], ("put", alike, alike, ZERO), (0,), "all")

    def test_x_says_something_else(self):
        self.fails(self.room, ("put", self.told, A, ("self", NAT, B)), (2,), "unlike")
        self.fails(self.room, ("put", self.told, A, ZERO), (2,), "unlike")
        self.fails(self.room, ("put", fun(NAT, NAT), A, NAT), (2,), "unlike")

    def test_in_order(self):
        # Within p, within e, e's same, p's all, within x, x's saying.
        self.fails([], ("put", at(5), at(6), at(7)), (0,), "place")
        self.fails([], ("put", ZERO, kind(5), at(7)), (1,), "height")
        self.fails([], ("put", ZERO, ZERO, at(7)), (1,), "same")
        self.fails([], ("put", ZERO, ("self", NAT, ZERO), at(7)), (0,), "all")
        self.fails([], ("put", fun(NAT, NAT), ("self", NAT, ZERO), at(7)), (2,), "place")
        self.fails([], ("put", fun(NAT, NAT), ("self", NAT, ZERO), NAT), (2,), "unlike")
        self.fails([], ("put", fun(NAT, ("maker", "nat", 2)), ZERO, at(7)), (0, 1), "maker")

    def test_worked_out(self):
        room = [("same", ("name", "nums"), app(PLUS, ZERO, ZERO), number(1))]
        self.says(room, ("put", fun(("name", "nums"), ("same", NAT, A, app(PLUS, ZERO, A))), A, ("self", NAT, ZERO)),
                  ("same", NAT, number(1), number(1)))


class Papers(Checked):
    def test_a_number_and_nought(self):
        # By an eater: nought and nought is nought; and where k and nought is k, so is what stands behind each.
        more = by_places(("fun", "k", NAT, ("fun", "r", ("same", NAT, app(PLUS, var("k"), ZERO), var("k")), (
            "put", ("fun", "z", NAT, ("same", NAT, app(SUCC, app(PLUS, var("k"), ZERO)), app(SUCC, var("z")))), var("r"),
            ("self", NAT, app(SUCC, app(PLUS, var("k"), ZERO)))))))
        motive = fun(NAT, ("same", NAT, app(PLUS, A, ZERO), A))
        paper = fun(NAT, feed(0, motive, ("self", NAT, ZERO), more, A))
        told = every(NAT, ("same", NAT, app(PLUS, A, ZERO), A))
        self.assertTrue(settles(GROUND, [], paper, told))
        self.assertEqual(saying_of(GROUND, [], paper), saying_of(GROUND, [], ("name", "belief")))
        self.assertEqual(saying_by_worths(GROUND, [], paper), saying_of(GROUND, [], paper))
        self.assertFalse(settles(GROUND, [], paper, every(NAT, ("same", NAT, A, app(PLUS, A, ZERO)))))
        wrong = fun(NAT, feed(0, motive, ("self", NAT, number(1)), more, A))
        self.fails([], wrong, (1, 0, 0, 1), "unlike")

    def test_the_other_side(self):
        # Of x being y, y is x.
        paper = by_places(("fun", "x", NAT, ("fun", "y", NAT, ("fun", "e", ("same", NAT, var("x"), var("y")), (
            "put", ("fun", "z", NAT, ("same", NAT, var("z"), var("x"))), var("e"), ("self", NAT, var("x")))))))
        told = every(NAT, every(NAT, every(("same", NAT, B, A), ("same", NAT, B, C))))
        self.says([], paper, told)

    def test_nought_is_not_one(self):
        # A family tells nothing of nought and all of one; so what puts one on the other closes all.
        family = fun(NAT, feed(1, fun(NAT, K), NAT, fun(NAT, fun(K, ("thing", "none"))), A))
        paper = fun(("same", NAT, ZERO, number(1)), ("put", family, A, ZERO))
        self.says([], paper, every(("same", NAT, ZERO, number(1)), ("thing", "none")))


class Settles(unittest.TestCase):
    def test_by_hand(self):
        for room, term, saying, told in [
                ([], ZERO, NAT, True), ([], ZERO, ("name", "nums"), True), ([], ZERO, FLAG, False), ([], NAT, K, True),
                ([K], A, K, True), ([K], A, B, False), ([], fun(NAT, A), every(NAT, ("name", "nums")), True),
                ([], ("self", NAT, number(2)), ("same", NAT, number(2), app(PLUS, number(1), number(1))), True),
                ([], ("self", NAT, number(2)), ("same", NAT, number(2), number(1)), False),
                # The term has no saying.
                ([], at(3), NAT, False), ([], app(ZERO, ZERO), NAT, False), ([], kind(5), kind(5), False),
                # The saying has no saying, or another one than a kind.
                ([], ZERO, at(3), False), ([], ZERO, ZERO, False), ([], ("self", NAT, ZERO), ("same", NAT, NAT, ZERO), False),
                ([], kind(3), kind(4), True), ([], kind(4), kind(5), False),
                ([], fun(NAT, kind(4)), every(NAT, kind(5)), False), ([], ZERO, app(fun(K, A), ("thing", "gone")), False)]:
            self.assertIs(settles(GROUND, room, term, saying), told)

    def test_no_ground_room_or_term(self):
        for thing in NO_GROUNDS:
            refused(self, NoGround, thing, settles, thing, None, None, None)
            refused(self, NoGround, thing, saying_of, thing, None, None)
            refused(self, NoGround, thing, saying_of, thing, [], K)
        for thing in NO_ROOMS:
            refused(self, NoRoom, thing, settles, EMPTY, thing, None, None)
            refused(self, NoRoom, thing, saying_of, EMPTY, thing, None)
            refused(self, NoRoom, thing, saying_of, EMPTY, thing, K)
        for thing in NO_TERMS:
            refused(self, NoTerm, thing, settles, EMPTY, [], thing, ["at"])
            refused(self, NoTerm, thing, settles, EMPTY, [], K, thing)
            refused(self, NoTerm, thing, settles, EMPTY, [], at(3), thing)
            refused(self, NoTerm, thing, saying_of, EMPTY, [], thing)
            refused(self, NoTerm, thing, saying_of, EMPTY, (K, A), thing)

    def test_by_names(self):
        self.assertIs(settles(saying=NAT, term=ZERO, room=[], ground=GROUND), True)
        self.assertEqual(saying_of(term=A, room=(K,), ground=EMPTY), K)
        refused_as(self, PaperError, NoPaper, {"spot": (), "why": "place"}, saying_of, term=A, room=[], ground=EMPTY)


class Rooms(Checked):
    def test_of_none_and_of_twelve(self):
        room = [K, A, B, C, at(3), at(4), at(5), at(6), at(7), at(8), at(9), at(10)]
        for some in (room, tuple(room)):
            for place in range(12):
                self.says(some, at(place), K if place == 11 else at(11))
        self.says((), K, kind(1))

    def test_what_was_handed_in_stays(self):
        room = [K, app(fun(K, A), A)]
        saying_of(GROUND, room, A)
        saying_by_worths(GROUND, room, A)
        self.assertEqual(room, [K, app(fun(K, A), A)])

    def test_behind_binders_the_room_grows(self):
        self.says([K, A], fun(B, fun(C, app(fun(at(3), A), B))), every(B, every(C, at(3))))
        term, told = ZERO, NAT
        for _ in range(30):
            term, told = fun(NAT, term), every(NAT, told)
        self.says([NAT] * 12, term, told)


class WithoutEnd(unittest.TestCase):
    """Nothing is promised of what goes on for ever; but the kernel gives up, as the readme says."""

    def test_a_name_that_means_itself(self):
        ground = Ground([("mean", "loop", kind(1), ("name", "loop"))])
        self.assertEqual(saying_of(ground, [], ("name", "loop")), kind(1))
        for term in (("self", kind(1), ("name", "loop")), fun(("name", "loop"), A)):
            with self.assertRaises(Tired):
                saying_of(ground, [], term)


class Large(Checked):
    def test_sixty_and_two_hundred_within_one_another(self):
        for deep in (59, 195):
            self.says([], number(deep), NAT)
            self.fails([], changed(number(deep), (1,) * deep, NAT), (1,) * deep, "unlike")
            term, told = at(deep - 1), K
            for _ in range(deep):
                term = fun(K, term)
                told = every(K, told)
            self.says([], term, told)
            self.fails([], changed(term, (1,) * deep, at(deep)), (1,) * deep, "place")
            self.fails([], changed(term, (1,) * deep, kind(5)), (1,) * deep, "height")

    def test_four_hundred(self):
        term = ZERO
        for _ in range(57):
            term = app(fun(NAT, app(SUCC, A)), term)
        self.assertEqual(size(term), 343)
        self.says([], term, NAT)
        self.says([], ("self", NAT, term), ("same", NAT, number(57), number(57)))

    def test_told_terms_handed_in_again(self):
        term = app(NIL, NAT)
        for _ in range(6):
            term = app(MORE, NAT, number(20), term)
        told = ("self", app(LISTED, NAT), term)
        for _ in range(4):
            saying = saying_of(GROUND, [], told)
            self.says([], told, saying)
            self.says([], saying, K)
            told = ("self", saying, told)
        self.assertGreater(size(saying), 5000)


if __name__ == "__main__":
    unittest.main()
