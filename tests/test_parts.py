"""Points 3 and 12: parts, spots, binders above them, and terms changed at a spot."""

import unittest
from kernelpapers.errors import NoSpot, NoTerm
from kernelpapers.terms import binders_at, changed, part_at, parts, spots
from samples import A, B, C, K, LEAVES, NAT, NO_TERMS, SUCC, TERMS, ZERO, app, at, every, fun, nested, refused

DEEP = ("put", every(NAT, fun(A, B)), ("self", NAT, ZERO), app(SUCC, every(K, ("same", A, B, C))))
# All spots of DEEP in order, with the part there and the binders above it.
DEEP_SPOTS = [
    ((), DEEP, 0),
    ((0,), every(NAT, fun(A, B)), 0),
    ((0, 0), NAT, 0),
    ((0, 1), fun(A, B), 1),
    ((0, 1, 0), A, 1),
    ((0, 1, 1), B, 2),
    ((1,), ("self", NAT, ZERO), 0),
    ((1, 0), NAT, 0),
    ((1, 1), ZERO, 0),
    ((2,), app(SUCC, every(K, ("same", A, B, C))), 0),
    ((2, 0), SUCC, 0),
    ((2, 1), every(K, ("same", A, B, C)), 0),
    ((2, 1, 0), K, 0),
    ((2, 1, 1), ("same", A, B, C), 1),
    ((2, 1, 1, 0), A, 1),
    ((2, 1, 1, 1), B, 1),
    ((2, 1, 1, 2), C, 1),
]
# What is no spot of DEEP: one part too far, on behind a leaf, and what is no spot at all.
NO_SPOTS = [
    (3,), (0, 2), (1, 2), (2, 1, 1, 3), (0, 0, 0), (0, 1, 1, 0), (10 ** 29,), (0, 10 ** 29), (0,) * 60, (-1,), (0, -1), (True,),
    (0, True), (False,), [], [0], [0, 0], None, True, False, 0, 1, -1, "", "0", {}, {0: 0}, ("0",), (None,), ((0,),), ([0],), A,
    nested("list", 60), nested("tuple", 60), nested("dict", 60), NoTerm(0),
]


class Parts(unittest.TestCase):
    def test_of_each_word(self):
        self.assertEqual(parts(every(A, B)), [A, B])
        self.assertEqual(parts(fun(K, A)), [K, A])
        self.assertEqual(parts(("app", A, B)), [A, B])
        self.assertEqual(parts(("same", NAT, ZERO, A)), [NAT, ZERO, A])
        self.assertEqual(parts(("self", NAT, ZERO)), [NAT, ZERO])
        self.assertEqual(parts(("put", A, B, C)), [A, B, C])

    def test_of_leaves(self):
        for leaf in LEAVES:
            self.assertEqual(parts(leaf), [])

    def test_a_list_and_a_new_one_each_time(self):
        told = parts(DEEP)
        self.assertIs(told.__class__, list)
        told.clear()
        self.assertEqual(parts(DEEP), [DEEP[1], DEEP[2], DEEP[3]])
        parts(A).append(K)
        self.assertEqual(parts(A), [])

    def test_no_term(self):
        for thing in NO_TERMS:
            refused(self, NoTerm, thing, parts, thing)

    def test_by_name(self):
        self.assertEqual(parts(term=("app", A, B)), [A, B])


class AtSpots(unittest.TestCase):
    def test_part_and_binders_at_each_spot(self):
        for spot, part, above in DEEP_SPOTS:
            self.assertEqual(part_at(DEEP, spot), part, spot)
            self.assertEqual(binders_at(DEEP, spot), above, spot)
            self.assertIs(binders_at(DEEP, spot).__class__, int)

    def test_only_the_second_part_of_all_and_fun_is_behind_a_binder(self):
        for word, many in [("all", 2), ("fun", 2), ("app", 2), ("same", 3), ("self", 2), ("put", 3)]:
            for number in range(many):
                told = binders_at((word, *[A] * many), (number,))
                self.assertEqual(told, 1 if word in ("all", "fun") and number == 1 else 0, (word, number))

    def test_spots_in_order(self):
        self.assertEqual(spots(DEEP), [spot for spot, _, _ in DEEP_SPOTS])
        for term in TERMS:
            self.assertEqual(spots(term), sorted(spots(term)))
            self.assertEqual(spots(term)[0], ())

    def test_spots_of_leaves(self):
        for leaf in LEAVES:
            self.assertEqual(spots(leaf), [()])

    def test_spots_are_a_new_list_each_time(self):
        told = spots(DEEP)
        self.assertIs(told.__class__, list)
        told.reverse()
        self.assertEqual(spots(DEEP), [spot for spot, _, _ in DEEP_SPOTS])

    def test_no_spot_of_the_term(self):
        for spot in NO_SPOTS:
            refused(self, NoSpot, spot, part_at, DEEP, spot)
            refused(self, NoSpot, spot, binders_at, DEEP, spot)
            refused(self, NoSpot, spot, changed, DEEP, spot, A)

    def test_leaves_have_the_one_spot(self):
        for leaf in LEAVES:
            self.assertEqual(part_at(leaf, ()), leaf)
            for number in range(3):
                spot = (number,)
                refused(self, NoSpot, spot, part_at, leaf, spot)
                refused(self, NoSpot, spot, binders_at, leaf, spot)

    def test_no_term_goes_first(self):
        for thing in NO_TERMS:
            refused(self, NoTerm, thing, spots, thing)
            refused(self, NoTerm, thing, part_at, thing, ())
            refused(self, NoTerm, thing, part_at, thing, [0])
            refused(self, NoTerm, thing, binders_at, thing, ())
            refused(self, NoTerm, thing, binders_at, thing, None)

    def test_by_names(self):
        self.assertEqual(part_at(spot=(1,), term=("app", A, B)), B)
        self.assertEqual(binders_at(spot=(1,), term=every(A, B)), 1)
        self.assertEqual(spots(term=A), [()])


class Changed(unittest.TestCase):
    def test_at_itself(self):
        self.assertEqual(changed(DEEP, (), A), A)
        self.assertEqual(changed(A, (), DEEP), DEEP)

    def test_as_it_stands(self):
        # No place of the other one is raised, whatever binders stand above the spot.
        self.assertEqual(changed(fun(K, fun(A, B)), (1, 1), at(5)), fun(K, fun(A, at(5))))
        self.assertEqual(changed(fun(K, fun(A, B)), (1,), B), fun(K, B))

    def test_at_each_spot(self):
        other = ("self", B, at(9))
        told = {
            (0,): ("put", other, ("self", NAT, ZERO), app(SUCC, every(K, ("same", A, B, C)))),
            (0, 1, 1): ("put", every(NAT, fun(A, other)), ("self", NAT, ZERO), app(SUCC, every(K, ("same", A, B, C)))),
            (1, 0): ("put", every(NAT, fun(A, B)), ("self", other, ZERO), app(SUCC, every(K, ("same", A, B, C)))),
            (1, 1): ("put", every(NAT, fun(A, B)), ("self", NAT, other), app(SUCC, every(K, ("same", A, B, C)))),
            (2, 1, 1, 1): ("put", every(NAT, fun(A, B)), ("self", NAT, ZERO), app(SUCC, every(K, ("same", A, other, C)))),
            (2,): ("put", every(NAT, fun(A, B)), ("self", NAT, ZERO), other),
        }
        for spot, term in told.items():
            self.assertEqual(changed(DEEP, spot, other), term, spot)

    def test_changed_and_changed_back(self):
        for spot, part, _ in DEEP_SPOTS:
            made = changed(DEEP, spot, ("kind", 4))
            self.assertNotEqual(made, DEEP)
            self.assertEqual(part_at(made, spot), ("kind", 4))
            self.assertEqual(changed(made, spot, part), DEEP)
            self.assertEqual(changed(DEEP, spot, part), DEEP)

    def test_refusals_in_order(self):
        wrong, spot, other = ("at",), [9], ("kind", 6)
        refused(self, NoTerm, wrong, changed, wrong, spot, other)
        refused(self, NoTerm, wrong, changed, wrong, (), other)
        refused(self, NoTerm, wrong, changed, wrong, spot, A)
        refused(self, NoSpot, spot, changed, A, spot, other)
        refused(self, NoTerm, other, changed, A, (), other)
        for thing in NO_TERMS:
            refused(self, NoTerm, thing, changed, thing, (), A)
            refused(self, NoTerm, thing, changed, DEEP, (1,), thing)
        beyond = (0,)
        refused(self, NoSpot, beyond, changed, A, beyond, other)

    def test_by_names(self):
        self.assertEqual(changed(other=C, spot=(0,), term=("app", A, B)), ("app", C, B))


if __name__ == "__main__":
    unittest.main()
