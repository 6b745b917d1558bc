"""Points 71 to 78: what each deed leaves, and its paper."""

import unittest
from kernelpapers.deeds import done_at, is_deed
from kernelpapers.errors import NoFit, NoPaper, PaperError
from kernelpapers.grounds import Ground
from kernelpapers.kernel import settles
from kernelpapers.texts import read, read_ground
from kernelpapers.worths import saying_by_worths
from goods import FLAG, ROWS
from samples import A, B, C, K, NAT, SUCC, ZERO, app, at, every, fun, refused_as

GROUND = Ground([*ROWS, *read_ground(
    "mean arrow : *0 = nat -> bool\n"
    "mean pair : *0 -> *0 = fun x0 : *0 . x0 -> x0\n"
    "hold rule : all x0 : nat . same nat x0 x0 -> nat -> bool\n"
    "hold zero : same nat @some nat#0\n"
    "hold comm : all x0 : nat . all x1 : nat . same nat (@plus x0 x1) (@plus x1 x0)\n"
    "hold types : same *0 nat bool\n"
    "hold kinds : same *1 *0 *0\n"
    "hold pred : nat -> *0").rows()])


class Deeds(unittest.TestCase):
    def leaves(self, room, saying, deed, goals, papers, told):
        """The deed, at a goal told by texts, leaves these goals; and makes of these papers, of the goals, the told one."""
        around = terms(room)
        goal = read(saying, len(around))
        wanted = [(tuple(terms(left)), read(text, len(left))) for left, text in goals]
        told_goals, paper = done_at(GROUND, around, goal, deed)
        self.assertEqual(told_goals, wanted)
        self.assertIsInstance(told_goals, list)
        for left, _ in told_goals:
            self.assertIsInstance(left, tuple)
        given = [read(text, len(left)) for text, (left, _) in zip(papers, goals)]
        self.assertEqual(paper(given), read(told, len(around)))
        for (left, asked), one in zip(told_goals, given):
            self.assertTrue(settles(GROUND, left, one, asked))
        self.assertTrue(settles(GROUND, around, paper(given), goal))
        self.assertEqual(paper(given), paper(list(given)))
        saying_by_worths(GROUND, around, paper(given))

    def unfit(self, room, saying, *deeds):
        """None of the deeds fits at a goal told by texts."""
        around = terms(room)
        goal = read(saying, len(around))
        for deed in deeds:
            with self.assertRaises(NoFit) as caught:
                done_at(GROUND, around, goal, deed)
            self.assertIs(caught.exception.__class__, NoFit)
            self.assertIs(caught.exception.found, deed)

    def fails(self, room, saying, deed, spot, why):
        around = terms(room)
        refused_as(self, PaperError, NoPaper, {"spot": spot, "why": why}, done_at, GROUND, around, read(saying, len(around)), deed)


def terms(texts):
    """The room of texts, each read in the room of those ahead."""
    return [read(text, number) for number, text in enumerate(texts)]


class Bring(Deeds):
    def test_as_the_goal_stands(self):
        self.leaves([], "nat -> nat", ("bring",), [(["nat"], "nat")], ["x0"], "fun x0 : nat . x0")
        self.leaves(["*0"], "all x1 : x0 . same x0 x1 x1", ("bring",), [(["*0", "x0"], "same x0 x1 x1")], ["self x0 x1"],
                    "fun x1 : x0 . self x0 x1")
        # Nothing is worked out.
        self.leaves([], "all x0 : @nums . @arrow", ("bring",), [(["@nums"], "@arrow")], ["fun x1 : nat . bool#0"],
                    "fun x0 : @nums . fun x1 : nat . bool#0")

    def test_worked_out_where_it_does_not_so_stand(self):
        self.leaves([], "@arrow", ("bring",), [(["nat"], "bool")], ["bool#1"], "fun x0 : nat . bool#1")
        self.leaves(["*0"], "@pair (@pair x0)", ("bring",), [(["*0", "x0 -> x0"], "x0 -> x0")], ["x1"], "fun x1 : x0 -> x0 . x1")
        self.leaves([], "(fun x0 : *0 . all x1 : x0 . @arrow) @nums", ("bring",), [(["nat"], "nat -> bool")], ["fun x1 : nat . bool#0"],
                    "fun x0 : nat . fun x1 : nat . bool#0")

    def test_where_it_is_no_all(self):
        self.unfit([], "nat", ("bring",))
        self.unfit(["*0"], "x0", ("bring",))
        self.unfit([], "@nums", ("bring",))
        self.unfit([], "same nat nat#0 nat#0", ("bring",))
        self.unfit([], "*0", ("bring",))

    def test_rooms_of_eleven_and_twelve(self):
        self.leaves(["*0"] * 11, "nat -> nat", ("bring",), [(["*0"] * 11 + ["nat"], "nat")], ["x11"], "fun x11 : nat . x11")
        self.unfit(["*0"] * 12, "nat -> nat", ("bring",))


class Give(Deeds):
    def test_of_the_same_saying_worked_out(self):
        self.leaves([], "nat", ("give", ZERO), [], [], "nat#0")
        self.leaves(["nat"], "@nums", ("give", app(SUCC, A)), [], [], "nat#1 x0")
        self.leaves([], "@arrow", ("give", read("(fun x0 : *0 . fun x1 : x0 . bool#0) nat")), [], [],
                    "(fun x0 : *0 . fun x1 : x0 . bool#0) nat")
        self.leaves(["nat"] * 12, "nat", ("give", at(11)), [], [], "x0")

    def test_of_another_saying(self):
        self.unfit([], "nat", ("give", SUCC), ("give", NAT), ("give", read("bool#0")))
        self.unfit(["*0", "x0"], "x0", ("give", B), ("give", ZERO))
        self.unfit([], "same nat nat#0 nat#0", ("give", read("self nat (nat#1 nat#0)")))

    def test_what_has_none(self):
        self.fails([], "nat", ("give", app(SUCC, NAT)), (1,), "unlike")
        self.fails(["nat"], "nat", ("give", B), (), "place")
        self.fails([], "nat", ("give", app(SUCC, ("name", "gone"))), (1,), "name")


class Use(Deeds):
    def test_given_nothing(self):
        self.leaves([], "@nums", ("use", ZERO, ()), [], [], "nat#0")
        self.leaves(["nat -> nat"], "nat -> nat", ("use", A, ()), [], [], "x0")

    def test_given_terms(self):
        self.leaves([], "nat", ("use", SUCC, (ZERO,)), [], [], "nat#1 nat#0")
        self.leaves(["*0", "x0"], "x0", ("use", ("name", "id"), (B, A)), [], [], "@id x0 x1")
        self.leaves([], "same nat (nat#1 nat#0) (nat#1 nat#0)", ("use", ("name", "comm"), (read("nat#1 nat#0"), ZERO)), [], [],
                    "@comm (nat#1 nat#0) nat#0")
        self.leaves(["nat"], "nat -> bool", ("use", ("name", "rule"), (A, ("self", NAT, A))), [], [], "@rule x0 (self nat x0)")

    def test_what_is_left_of_none(self):
        self.leaves([], "nat", ("use", SUCC, (None,)), [([], "nat")], ["nat#0"], "nat#1 nat#0")
        self.leaves([], "nat", ("use", ("name", "plus"), (None, None)), [([], "nat"), ([], "nat")], ["nat#0", "nat#1 nat#0"],
                    "@plus nat#0 (nat#1 nat#0)")
        self.leaves(["nat"], "bool", ("use", ("name", "rule"), (A, None, None)), [(["nat"], "same nat x0 x0"), (["nat"], "nat")],
                    ["self nat x0", "x0"], "@rule x0 (self nat x0) x0")
        self.leaves(["nat"], "bool", ("use", ("name", "rule"), (A, None, ZERO)), [(["nat"], "same nat x0 x0")],
                    ["self nat x0"], "@rule x0 (self nat x0) nat#0")
        self.leaves(["*0"], "x0 -> x0", ("use", ("name", "twice"), (A, None)), [(["*0"], "x0 -> x0")], ["fun x1 : x0 . x1"],
                    "@twice x0 (fun x1 : x0 . x1)")

    def test_what_is_gone_on_with_is_worked_out(self):
        # The family of numbers: none is a number, one more is a row of arrows.
        self.leaves([], "bool", ("use", read("fun x0 : nat . fun x1 : @family x0 . bool#0"), (ZERO, None)), [([], "nat")], ["nat#0"],
                    "(fun x0 : nat . fun x1 : @family x0 . bool#0) nat#0 nat#0")
        self.leaves([], "bool", ("use", read("fun x0 : nat . fun x1 : @family x0 . bool#0"), (read("nat#1 nat#0"), None)), [([], "nat -> nat")],
                    ["nat#1"], "(fun x0 : nat . fun x1 : @family x0 . bool#0) (nat#1 nat#0) nat#1")
        # It is all of something only then.
        self.leaves(["all x0 : nat . @family x0"], "nat", ("use", A, (read("nat#1 nat#0"), None)),
                    [(["all x0 : nat . @family x0"], "nat")], ["nat#0"], "x0 (nat#1 nat#0) nat#0")
        self.leaves(["all x0 : nat . @family x0"], "nat", ("use", A, (ZERO,)), [], [], "x0 nat#0")
        self.unfit(["all x0 : nat . @family x0"], "nat", ("use", A, (ZERO, None)), ("use", A, (read("nat#1 nat#0"),)))

    def test_eight_things(self):
        room = ["*0", "x0 -> x0 -> x0 -> x0 -> x0 -> x0 -> x0 -> x0 -> x0", "x0"]
        self.leaves(room, "x0", ("use", B, (None, A, None, A, A, A, None, A)), [(room, "x0")] * 3, ["x2", "x2", "x2"],
                    "x1 x2 x2 x2 x2 x2 x2 x2 x2")
        self.leaves(room, "x0 -> x0", ("use", B, (A,) * 7), [], [], "x1 x2 x2 x2 x2 x2 x2 x2")

    def test_what_does_not_fit(self):
        self.unfit([], "nat", ("use", SUCC, ()), ("use", SUCC, (None, None)), ("use", ZERO, (None,)), ("use", SUCC, (SUCC,)),
                   ("use", SUCC, (NAT,)), ("use", ("name", "plus"), (None,)), ("use", ("name", "plus"), (None, None, None)))
        # A binder that is meant by what is behind it can't be left open.
        self.unfit(["*0", "x0"], "x0", ("use", ("name", "id"), (None, A)), ("use", ("name", "id"), (None, None)),
                   ("use", ("name", "id"), (A, A)), ("use", ("name", "id"), (B, B)), ("use", ("name", "id"), (B,)))
        self.unfit(["nat"], "bool", ("use", ("name", "rule"), (None, None, None)), ("use", ("name", "rule"), (ZERO, ("self", NAT, A), None)))

    def test_what_has_no_saying(self):
        self.fails([], "nat", ("use", app(ZERO, ZERO), ()), (0,), "all")
        self.fails([], "nat", ("use", SUCC, (app(ZERO, ZERO),)), (0,), "all")
        self.fails([], "nat", ("use", SUCC, (None, NAT, A)), (), "place")
        # In the order in which the terms stand, and ahead of what doesn't fit.
        self.fails([], "nat", ("use", app(SUCC, NAT), (A, app(ZERO, ZERO))), (1,), "unlike")
        self.fails([], "nat", ("use", ZERO, (None, None, app(ZERO, ZERO), A)), (0,), "all")


class Make(Deeds):
    def test_makers(self):
        self.leaves([], "nat", ("make", 0, ()), [], [], "nat#0")
        self.leaves([], "@nums", ("make", 1, (None,)), [([], "nat")], ["nat#0"], "nat#1 nat#0")
        self.leaves([], "nat", ("make", 1, (ZERO,)), [], [], "nat#1 nat#0")
        self.leaves([], "ord", ("make", 2, (None,)), [([], "nat -> ord")], ["fun x0 : nat . ord#0"], "ord#2 (fun x0 : nat . ord#0)")

    def test_makers_given_bounds(self):
        self.leaves(["*0"], "list x0", ("make", 0, ()), [], [], "list#0 x0")
        self.leaves(["*0", "x0"], "list x0", ("make", 1, (None, None)), [(["*0", "x0"], "x0"), (["*0", "x0"], "list x0")],
                    ["x1", "list#0 x0"], "list#1 x0 x1 (list#0 x0)")
        self.leaves([], "list @nums", ("make", 1, (ZERO, None)), [([], "list nat")], ["list#0 nat"], "list#1 nat nat#0 (list#0 nat)")

    def test_makers_whose_arguments_lean_on_others(self):
        tree = "tree bool (fun x0 : bool . same bool x0 bool#0)"
        room = ["same bool bool#1 bool#0 -> " + tree]
        self.leaves(room, tree.replace("x0", "x1"), ("make", 0, (read("bool#1"), None)), [(room, room[0].replace("x0", "x1"))], ["x0"],
                    "tree#0 bool (fun x1 : bool . same bool x1 bool#0) bool#1 x0")
        self.unfit(room, tree.replace("x0", "x1"), ("make", 0, (None, None)), ("make", 0, (read("bool#0"), A)))
        # Here it doesn't lean on it, once worked out.
        free = "tree bool (fun x0 : bool . none)"
        self.leaves(["none -> " + free], free.replace("x0", "x1"), ("make", 0, (None, None)),
                    [(["none -> " + free], "bool"), (["none -> " + free], "none -> " + free.replace("x0", "x1"))], ["bool#1", "x0"],
                    "tree#0 bool (fun x1 : bool . none) bool#1 x0")

    def test_what_does_not_fit(self):
        self.unfit([], "nat", ("make", 2, ()), ("make", 999, ()), ("make", 0, (None,)), ("make", 1, ()), ("make", 1, (None, None)),
                   ("make", 1, (read("bool#0"),)))
        self.unfit([], "none", ("make", 0, ()))
        self.unfit(["*0"], "x0", ("make", 0, ()))
        self.unfit([], "nat -> nat", ("make", 0, ()))
        self.unfit([], "*0", ("make", 0, ()))
        self.unfit([], "same nat nat#0 nat#0", ("make", 0, ()))

    def test_what_has_no_saying(self):
        self.fails([], "nat -> nat", ("make", 7, (None, app(SUCC, NAT))), (1,), "unlike")
        self.fails([], "nat", ("make", 1, (A, app(ZERO, ZERO))), (), "place")


class Split(Deeds):
    def test_numbers(self):
        self.leaves(["nat"], "bool", ("split", 0), [(["nat"], "bool"), (["nat", "nat", "bool"], "bool")], ["bool#0", "x2"],
                    "nat!0 (fun x1 : nat . bool) bool#0 (fun x1 : nat . fun x2 : bool . x2) x0")
        # What is asked of the number is asked of each maker.
        self.leaves(["@nums"], "same nat x0 x0", ("split", 0),
                    [(["@nums"], "same nat nat#0 nat#0"), (["@nums", "nat", "same nat x1 x1"], "same nat (nat#1 x1) (nat#1 x1)")],
                    ["self nat nat#0", "self nat (nat#1 x1)"],
                    "nat!0 (fun x1 : nat . same nat x1 x1) (self nat nat#0) (fun x1 : nat . fun x2 : same nat x1 x1 . self nat (nat#1 x1)) x0")

    def test_all_else_stays_what_it_means(self):
        room = ["*0", "nat", "x0 -> nat", "x0"]
        goals, paper = done_at(GROUND, terms(room), read("same nat (x2 x3) x1 -> nat", 4), ("split", 2))
        self.assertEqual(goals, [
            (tuple(terms(room)), read("same nat (x2 x3) nat#0 -> nat", 4)),
            (tuple(terms([*room, "nat", "same nat (x2 x3) x4 -> nat"])), read("same nat (x2 x3) (nat#1 x4) -> nat", 6))])
        self.assertEqual(paper([ZERO, A]), read(
            "nat!0 (fun x4 : nat . same nat (x2 x3) x4 -> nat) nat#0 (fun x4 : nat . fun x5 : same nat (x2 x3) x4 -> nat . x5) x1", 4))

    def test_what_stands_behind_binders_of_the_goal(self):
        self.leaves(["nat"], "all x1 : nat . same nat x0 x0", ("split", 0),
                    [(["nat"], "nat -> same nat nat#0 nat#0"),
                     (["nat", "nat", "nat -> same nat x1 x1"], "nat -> same nat (nat#1 x1) (nat#1 x1)")],
                    ["fun x1 : nat . self nat nat#0", "fun x3 : nat . self nat (nat#1 x1)"],
                    "nat!0 (fun x1 : nat . nat -> same nat x1 x1) (fun x1 : nat . self nat nat#0) "
                    "(fun x1 : nat . fun x2 : nat -> same nat x1 x1 . fun x3 : nat . self nat (nat#1 x1)) x0")

    def test_without_makers_and_without_arguments(self):
        self.leaves(["none", "*0"], "x1", ("split", 1), [], [], "none!0 (fun x2 : none . x1) x0")
        self.leaves(["bool"] * 12, "nat", ("split", 3), [(["bool"] * 12, "nat")] * 2, ["nat#0", "nat#1 nat#0"],
                    "bool!0 (fun x12 : bool . nat) nat#0 (nat#1 nat#0) x8")

    def test_given_bounds(self):
        room = ["*0", "list x0"]
        self.leaves(room, "same (list x0) x1 x1", ("split", 0),
                    [(room, "same (list x0) (list#0 x0) (list#0 x0)"),
                     ([*room, "x0", "list x0", "same (list x0) x3 x3"], "same (list x0) (list#1 x0 x2 x3) (list#1 x0 x2 x3)")],
                    ["self (list x0) (list#0 x0)", "self (list x0) (list#1 x0 x2 x3)"],
                    "list!0 x0 (fun x2 : list x0 . same (list x0) x2 x2) (self (list x0) (list#0 x0)) (fun x2 : x0 . fun x3 : list x0 . "
                    "fun x4 : same (list x0) x3 x3 . self (list x0) (list#1 x0 x2 x3)) x1")
        # The bounds are worked out with the saying.
        self.leaves(["list @nums"], "nat", ("split", 0),
                    [(["list @nums"], "nat"), (["list @nums", "nat", "list nat", "nat"], "nat")], ["nat#0", "x3"],
                    "list!0 nat (fun x1 : list nat . nat) nat#0 (fun x1 : nat . fun x2 : list nat . fun x3 : nat . x3) x0")

    def test_own_arguments_behind_sayings_between(self):
        room = ["ord", "ord -> *0"]
        self.leaves(room, "x1 x0 -> x1 x0", ("split", 1),
                    [(room, "x1 ord#0 -> x1 ord#0"),
                     ([*room, "ord", "x1 x2 -> x1 x2"], "x1 (ord#1 x2) -> x1 (ord#1 x2)"),
                     ([*room, "nat -> ord", "all x3 : nat . x1 (x2 x3) -> x1 (x2 x3)"], "x1 (ord#2 x2) -> x1 (ord#2 x2)")],
                    ["fun x2 : x1 ord#0 . x2", "fun x4 : x1 (ord#1 x2) . x4", "fun x4 : x1 (ord#2 x2) . x4"],
                    "ord!0 (fun x2 : ord . x1 x2 -> x1 x2) (fun x2 : x1 ord#0 . x2) "
                    "(fun x2 : ord . fun x3 : x1 x2 -> x1 x2 . fun x4 : x1 (ord#1 x2) . x4) "
                    "(fun x2 : nat -> ord . fun x3 : all x3 : nat . x1 (x2 x3) -> x1 (x2 x3) . fun x4 : x1 (ord#2 x2) . x4) x0")
        room = ["wide nat (fun x0 : nat . nat)"]
        end = "wide nat (fun x0 : nat . nat)"
        self.leaves(room, "bool", ("split", 0),
                    [(room, "bool"),
                     ([*room, "nat", "all x2 : nat . same nat x2 x2 -> " + end, "nat -> " + end,
                       "all x4 : nat . same nat x4 x4 -> bool", "nat -> bool"], "bool"),
                     ([*room, "nat", end, "bool"], "bool")],
                    ["bool#0", "x5 x1", "x3"],
                    "wide!0 nat (fun x1 : nat . nat) (fun x1 : wide nat (fun x1 : nat . nat) . bool) bool#0 "
                    "(fun x1 : nat . fun x2 : all x2 : nat . same nat x2 x2 -> wide nat (fun x3 : nat . nat) . "
                    "fun x3 : nat -> wide nat (fun x3 : nat . nat) . fun x4 : all x4 : nat . same nat x4 x4 -> bool . fun x5 : nat -> bool . x5 x1) "
                    "(fun x1 : nat . fun x2 : wide nat (fun x2 : nat . nat) . fun x3 : bool . x3) x0")

    def test_goals_are_worked_out(self):
        self.leaves(["nat"], "@family x0", ("split", 0),
                    [(["nat"], "nat"),
                     (["nat", "nat", "nat!1 (fun x2 : nat . *0) nat (fun x2 : nat . fun x3 : *0 . x3 -> x3) x1"],
                      "nat!1 (fun x3 : nat . *0) nat (fun x3 : nat . fun x4 : *0 . x4 -> x4) x1 -> "
                      "nat!1 (fun x3 : nat . *0) nat (fun x3 : nat . fun x4 : *0 . x4 -> x4) x1")],
                    ["nat#0", "fun x3 : @family x1 . x3"],
                    "nat!0 (fun x1 : nat . nat!1 (fun x2 : nat . *0) nat (fun x2 : nat . fun x3 : *0 . x3 -> x3) x1) nat#0 "
                    "(fun x1 : nat . fun x2 : nat!1 (fun x2 : nat . *0) nat (fun x2 : nat . fun x3 : *0 . x3 -> x3) x1 . "
                    "fun x3 : @family x1 . x3) x0")

    def test_heights(self):
        self.leaves(["bool"], "*0", ("split", 0), [(["bool"], "*0")] * 2, ["nat", "bool"], "bool!1 (fun x1 : bool . *0) nat bool x0")
        self.leaves(["bool"], "*3", ("split", 0), [(["bool"], "*3")] * 2, ["*2", "*1 -> *2"], "bool!4 (fun x1 : bool . *3) *2 (*1 -> *2) x0")
        self.unfit(["bool"], "*4", ("split", 0))
        self.unfit(["bool"], "nat -> *4", ("split", 0))
        self.leaves(["code"], "nat", ("split", 0),
                    [(["code", "*0"], "nat"), (["code", "code", "code", "nat", "nat"], "nat")], ["nat#0", "x3"],
                    "code!0 (fun x1 : code . nat) (fun x1 : *0 . nat#0) (fun x1 : code . fun x2 : code . fun x3 : nat . fun x4 : nat . x3) x0")

    def test_what_leans_on_the_place(self):
        room = ["nat", "same nat x0 x0", "all x2 : same nat x0 x0 . *0"]
        # The goal means the place only through what leans on it.
        self.unfit(room, "x2 x1 -> same nat x0 x0 -> same (same nat x0 x0) x1 x1", ("split", 2))
        self.unfit(room[:2], "same (same nat x0 x0) x1 x1", ("split", 1))
        # What leans on it is in the room alone.
        goals, _ = done_at(GROUND, terms(room[:2]), read("same nat x0 nat#0", 2), ("split", 1))
        self.assertEqual(goals[0], (tuple(terms(room[:2])), read("same nat nat#0 nat#0", 2)))
        self.leaves(room[:2], "same nat x0 x0", ("split", 1),
                    [(room[:2], "same nat nat#0 nat#0"), ([*room[:2], "nat", "same nat x2 x2"], "same nat (nat#1 x2) (nat#1 x2)")],
                    ["self nat nat#0", "self nat (nat#1 x2)"],
                    "nat!0 (fun x2 : nat . same nat x2 x2) (self nat nat#0) (fun x2 : nat . fun x3 : same nat x2 x2 . self nat (nat#1 x2)) x0")

    def test_what_is_no_place_of_a_thing(self):
        self.unfit(["nat"], "nat", ("split", 1), ("split", 999))
        self.unfit([], "nat", ("split", 0))
        self.unfit(["*0", "x0", "nat -> nat", "same nat nat#0 nat#0", "*0"], "nat", ("split", 0), ("split", 1), ("split", 2),
                   ("split", 3), ("split", 4))
        self.unfit(["*0 -> *0", "x0 nat"], "nat", ("split", 0))

    def test_rooms_that_grow_too_large(self):
        self.unfit(["nat"] * 11, "nat", ("split", 0))
        self.unfit(["nat"] * 12, "nat", ("split", 5))
        goals, _ = done_at(GROUND, [NAT] * 10, NAT, ("split", 5))
        self.assertEqual([len(room) for room, _ in goals], [10, 12])
        self.unfit(["list nat"] * 10, "nat", ("split", 0))
        goals, _ = done_at(GROUND, terms(["list nat"] * 9), NAT, ("split", 0))
        self.assertEqual([len(room) for room, _ in goals], [9, 12])


class Turns(Deeds):
    def test_steps(self):
        self.leaves([], "@nums", ("steps",), [([], "nat")], ["nat#0"], "nat#0")
        self.leaves([], "nat", ("steps",), [([], "nat")], ["nat#0"], "nat#0")
        self.leaves(["@nums"] * 12, "@pair (@pair nat)", ("steps",), [(["@nums"] * 12, "(nat -> nat) -> nat -> nat")],
                    ["fun x12 : nat -> nat . x12"], "fun x12 : nat -> nat . x12")

    def test_turn(self):
        self.leaves([], "nat", ("turn", ("name", "nums")), [([], "@nums")], ["nat#0"], "nat#0")
        self.leaves([], "@nums", ("turn", ("name", "nums")), [([], "@nums")], ["nat#0"], "nat#0")
        self.leaves(["nat"], "same nat (nat#1 x0) x0 -> nat", ("turn", read("same @nums (@plus (nat#1 nat#0) x0) x0 -> nat", 1)),
                    [(["nat"], "same @nums (@plus (nat#1 nat#0) x0) x0 -> nat")], ["fun x1 : same nat (nat#1 x0) x0 . x0"],
                    "fun x1 : same nat (nat#1 x0) x0 . x0")
        self.unfit([], "nat", ("turn", FLAG), ("turn", ZERO), ("turn", K), ("turn", read("nat -> nat")))
        # What is the same, but has no kind, isn't asked: it is no saying.
        self.unfit(["nat"], "nat", ("turn", A))
        self.fails([], "nat", ("turn", app(SUCC, NAT)), (1,), "unlike")
        self.fails([], "nat", ("turn", app(fun(("kind", 5), NAT), K)), (0, 0), "height")

    def test_cut(self):
        self.leaves([], "nat", ("cut", FLAG), [([], "bool"), (["bool"], "nat")], ["bool#0", "nat#0"], "(fun x0 : bool . nat#0) bool#0")
        # The goal, and what is cut, as they stand.
        self.leaves(["nat"], "same @nums x0 x0", ("cut", read("same @nums x0 nat#0 -> *0", 1)),
                    [(["nat"], "same @nums x0 nat#0 -> *0"), (["nat", "same @nums x0 nat#0 -> *0"], "same @nums x0 x0")],
                    ["fun x1 : same @nums x0 nat#0 . nat", "self nat x0"],
                    "(fun x1 : same @nums x0 nat#0 -> *0 . self nat x0) (fun x1 : same @nums x0 nat#0 . nat)")
        self.leaves(["*0"], "x0 -> x0", ("cut", K), [(["*0"], "*0"), (["*0", "*0"], "x0 -> x0")], ["x0", "fun x2 : x0 . x2"],
                    "(fun x1 : *0 . fun x2 : x0 . x2) x0")
        self.unfit([], "nat", ("cut", ZERO), ("cut", SUCC))
        self.fails([], "nat", ("cut", ("kind", 5)), (), "height")
        self.fails(["nat"], "nat", ("cut", B), (), "place")

    def test_a_cut_in_rooms_of_eleven_and_twelve(self):
        room = ["nat"] * 11
        self.leaves(room, "nat", ("cut", FLAG), [(room, "bool"), ([*room, "bool"], "nat")], ["bool#0", "x0"],
                    "(fun x11 : bool . x0) bool#0")
        self.unfit(["nat"] * 12, "nat", ("cut", FLAG))
        self.fails(["nat"] * 12, "nat", ("cut", at(12)), (), "place")


class Put(Deeds):
    room = ["nat", "nat", "same nat x0 x1"]

    def test_one_side_for_the_other(self):
        self.leaves(self.room, "same nat x1 x1", ("put", A), [(self.room, "same nat x0 x0")], ["self nat x0"],
                    "put (fun x3 : nat . same nat x3 x3) x2 (self nat x0)")
        self.leaves(self.room, "same nat (nat#1 x1) (nat#1 x0)", ("put", A), [(self.room, "same nat (nat#1 x0) (nat#1 x0)")],
                    ["self nat (nat#1 x0)"], "put (fun x3 : nat . same nat (nat#1 x3) (nat#1 x0)) x2 (self nat (nat#1 x0))")

    def test_behind_binders_and_in_their_sayings(self):
        self.leaves([*self.room, "nat -> *0"], "all x4 : x3 x1 . same nat x1 x1 -> x3 x1", ("put", B),
                    [([*self.room, "nat -> *0"], "x3 x0 -> same nat x0 x0 -> x3 x0")],
                    ["fun x4 : x3 x0 . fun x5 : same nat x0 x0 . x4"],
                    "put (fun x4 : nat . x3 x4 -> same nat x4 x4 -> x3 x4) x2 (fun x4 : x3 x0 . fun x5 : same nat x0 x0 . x4)")
        self.leaves(self.room, "all x3 : nat . same nat x3 x1 -> same nat x3 x1", ("put", A),
                    [(self.room, "all x3 : nat . same nat x3 x0 -> same nat x3 x0")], ["fun x3 : nat . fun x4 : same nat x3 x0 . x4"],
                    "put (fun x3 : nat . all x4 : nat . same nat x4 x3 -> same nat x4 x3) x2 (fun x3 : nat . fun x4 : same nat x3 x0 . x4)")

    def test_of_those_within_one_another_the_outermost(self):
        room = ["nat", "nat -> nat", "all x2 : nat . same nat x2 (x1 x2)"]
        self.leaves(room, "same nat (x1 (x1 x0)) (x1 x0)", ("put", read("x2 (x1 x0)", 3)),
                    [(room, "same nat (x1 x0) (x1 x0)")], ["self nat (x1 x0)"],
                    "put (fun x3 : nat . same nat x3 (x1 x0)) (x2 (x1 x0)) (self nat (x1 x0))")
        goals, paper = done_at(GROUND, terms(room), read("same nat (x1 (x1 x0)) (x1 x0)", 3), ("put", read("x2 x0", 3)))
        self.assertEqual(goals, [(tuple(terms(room)), read("same nat (x1 x0) x0", 3))])
        self.assertEqual(paper([K]), read("put (fun x3 : nat . same nat (x1 x3) x3) (x2 x0) *0", 3))

    def test_the_goal_itself(self):
        self.leaves([], "bool", ("put", ("name", "types")), [([], "nat")], ["nat#0"], "put (fun x0 : *0 . x0) @types nat#0")
        self.leaves([], "bool -> bool", ("put", ("name", "types")), [([], "nat -> nat")], ["nat#1"],
                    "put (fun x0 : *0 . x0 -> x0) @types nat#1")

    def test_both_are_worked_out(self):
        self.leaves([], "same nat (@plus nat#0 nat#0) @some", ("put", ("name", "zero")), [([], "same nat @some @some")],
                    ["self nat @some"], "put (fun x0 : nat . same nat x0 @some) @zero (self nat @some)")
        self.leaves(["nat"], "same nat x0 x0", ("put", app(("name", "comm"), A, ZERO)), [(["nat"],
                    "same nat (nat!0 (fun x1 : nat . nat) nat#0 (fun x1 : nat . fun x2 : nat . nat#1 x2) x0) "
                    "(nat!0 (fun x1 : nat . nat) nat#0 (fun x1 : nat . fun x2 : nat . nat#1 x2) x0)")], ["self nat (@plus x0 nat#0)"],
                    "put (fun x1 : nat . same nat x1 x1) (@comm x0 nat#0) (self nat (@plus x0 nat#0))")

    def test_what_is_left_is_worked_out(self):
        self.leaves(["nat", "same nat (nat#1 nat#0) x0"], "nat!1 (fun x2 : nat . *0) bool (fun x2 : nat . fun x3 : *0 . nat) x0",
                    ("put", A), [(["nat", "same nat (nat#1 nat#0) x0"], "nat")], ["nat#0"],
                    "put (fun x2 : nat . nat!1 (fun x3 : nat . *0) bool (fun x3 : nat . fun x4 : *0 . nat) x2) x1 nat#0")

    def test_what_does_not_fit(self):
        self.unfit(self.room, "same nat x0 x0", ("put", A))
        self.unfit(self.room, "same nat x1 x1", ("put", B), ("put", at(2)), ("put", NAT), ("put", ZERO))
        self.unfit([], "nat", ("put", ("name", "types")))
        self.unfit([], "*0", ("put", ("name", "types")))
        # What is put there would have no saying.
        self.unfit([], "same bool bool#0 bool#0", ("put", ("name", "types")))
        self.leaves([], "*0", ("put", ("name", "kinds")), [([], "*0")], ["nat"], "put (fun x0 : *1 . x0) @kinds nat")

    def test_what_has_no_saying(self):
        self.fails(self.room, "nat", ("put", at(3)), (), "place")
        self.fails([], "nat", ("put", ("self", NAT, NAT)), (1,), "unlike")


class IsDeed(unittest.TestCase):
    def test_each_form(self):
        for deed in [("bring",), ("give", K), ("use", K, ()), ("use", K, (None,) * 8), ("use", K, (K, None, A)), ("make", 0, ()), ("make", 999, (A,)),
                     ("split", 0), ("split", 999), ("steps",), ("turn", K), ("cut", at(7)), ("put", every(K, A))]:
            self.assertIs(is_deed(deed), True, deed)
        self.assertIs(is_deed(thing=("bring",)), True)


if __name__ == "__main__":
    unittest.main()
