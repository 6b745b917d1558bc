"""Points 13 and 14: size, free places, raised, given at a number, lowered."""

import unittest
from kernelpapers.errors import NoNumber, NoTerm
from kernelpapers.terms import free, giving, lowered, raised, size
from samples import A, B, C, K, LEAVES, NAT, NO_TERMS, NO_WHOLES, SUCC, ZERO, app, at, every, fun, refused

# One binder stands above each second part; the free places of OPEN_TERM are 1, 3 (under one binder) and 0.
OPEN_TERM = app(fun(A, app(A, at(4))), B)


class Sizes(unittest.TestCase):
    def test_leaves(self):
        for leaf in LEAVES:
            self.assertEqual(size(leaf), 1)

    def test_itself_is_counted(self):
        self.assertEqual(size(every(A, B)), 3)
        self.assertEqual(size(fun(A, B)), 3)
        self.assertEqual(size(("app", A, B)), 3)
        self.assertEqual(size(("self", A, B)), 3)
        self.assertEqual(size(("same", A, B, C)), 4)
        self.assertEqual(size(("put", A, B, C)), 4)
        self.assertEqual(size(OPEN_TERM), 7)

    def test_the_same_part_counts_each_time(self):
        self.assertEqual(size(("app", OPEN_TERM, OPEN_TERM)), 15)

    def test_no_term(self):
        for thing in NO_TERMS:
            refused(self, NoTerm, thing, size, thing)

    def test_by_name(self):
        self.assertEqual(size(term=A), 1)


class Free(unittest.TestCase):
    def test_a_place_and_other_leaves(self):
        self.assertEqual(free(A), [0])
        self.assertEqual(free(at(10 ** 29)), [10 ** 29])
        for leaf in LEAVES:
            self.assertEqual(free(leaf), [leaf[1]] if leaf[0] == "at" else [])

    def test_under_binders(self):
        for word in ("all", "fun"):
            self.assertEqual(free((word, K, A)), [])
            self.assertEqual(free((word, K, B)), [0])
            self.assertEqual(free((word, A, B)), [0])
            self.assertEqual(free((word, B, B)), [0, 1])
            self.assertEqual(free((word, K, (word, A, C))), [0])
            self.assertEqual(free((word, K, (word, B, B))), [0])
            self.assertEqual(free((word, K, (word, A, B))), [])

    def test_no_binder_in_other_words(self):
        self.assertEqual(free(("app", A, A)), [0])
        self.assertEqual(free(("self", A, B)), [0, 1])
        self.assertEqual(free(("same", C, B, A)), [0, 1, 2])
        self.assertEqual(free(("put", C, C, B)), [1, 2])

    def test_rising_each_once(self):
        self.assertEqual(free(app(at(9), at(2), at(40), at(9), fun(at(2), at(4)), A)), [0, 2, 3, 9, 40])
        self.assertEqual(free(OPEN_TERM), [0, 1, 3])

    def test_a_new_list_each_time(self):
        told = free(OPEN_TERM)
        self.assertIs(told.__class__, list)
        told.append(5)
        self.assertEqual(free(OPEN_TERM), [0, 1, 3])

    def test_no_term(self):
        for thing in NO_TERMS:
            refused(self, NoTerm, thing, free, thing)

    def test_by_name(self):
        self.assertEqual(free(term=B), [1])


class Raised(unittest.TestCase):
    def test_left_out(self):
        self.assertEqual(raised(A), B)
        self.assertEqual(raised(A, 2), C)
        self.assertEqual(raised(app(A, B, C), start=1), app(A, C, at(3)))
        self.assertEqual(raised(OPEN_TERM), app(fun(B, app(A, at(5))), C))

    def test_a_start_above_some_and_below_others(self):
        term = app(A, B, fun(C, app(A, B, C, at(3), at(4))))
        self.assertEqual(raised(term, 10, 0), app(at(10), at(11), fun(at(12), app(A, at(11), at(12), at(13), at(14)))))
        self.assertEqual(raised(term, 10, 1), app(A, at(11), fun(at(12), app(A, B, at(12), at(13), at(14)))))
        self.assertEqual(raised(term, 10, 2), app(A, B, fun(at(12), app(A, B, C, at(13), at(14)))))
        self.assertEqual(raised(term, 10, 3), app(A, B, fun(C, app(A, B, C, at(3), at(14)))))
        self.assertEqual(raised(term, 10, 4), term)

    def test_by_none(self):
        for term in [OPEN_TERM, A, every(A, B), K]:
            for start in (0, 1, 999):
                self.assertEqual(raised(term, 0, start), term)

    def test_bound_places_stay(self):
        closed = every(K, every(A, fun(B, app(A, B, C))))
        self.assertEqual(raised(closed, 7), closed)

    def test_binders_are_of_all_and_fun_alone(self):
        self.assertEqual(raised(("same", A, A, A)), ("same", B, B, B))
        self.assertEqual(raised(("self", A, A)), ("self", B, B))
        self.assertEqual(raised(("put", A, A, A)), ("put", B, B, B))
        self.assertEqual(raised(("app", A, A)), ("app", B, B))
        self.assertEqual(raised(("all", A, A)), ("all", B, A))
        self.assertEqual(raised(("fun", A, A)), ("fun", B, A))

    def test_other_leaves_stay(self):
        for leaf in LEAVES:
            if leaf[0] != "at":
                self.assertEqual(raised(leaf, 3), leaf)
                self.assertEqual(raised(app(leaf, A), 3), app(leaf, at(3)))

    def test_bounds_of_numbers(self):
        self.assertEqual(raised(A, 999, 0), at(999))
        self.assertEqual(raised(at(999), 999, 999), at(1998))
        self.assertEqual(raised(at(998), 999, 999), at(998))
        self.assertEqual(raised(raised(at(999), 999, 999), 999, 999), at(2997))

    def test_no_number(self):
        for thing in [*NO_WHOLES, 1000, 10 ** 29]:
            refused(self, NoNumber, thing, raised, A, thing)
            refused(self, NoNumber, thing, raised, A, thing, 0)
            refused(self, NoNumber, thing, raised, A, 1, thing)
            refused(self, NoNumber, thing, raised, A, start=thing)
            refused(self, NoNumber, thing, raised, A, by=thing)

    def test_refusals_in_order(self):
        term, by, start = ("at",), [1], [2]
        refused(self, NoTerm, term, raised, term, by, start)
        refused(self, NoTerm, term, raised, start=start, by=by, term=term)
        refused(self, NoNumber, by, raised, A, by, start)
        refused(self, NoNumber, by, raised, start=start, by=by, term=A)
        for thing in NO_TERMS:
            refused(self, NoTerm, thing, raised, thing)
            refused(self, NoTerm, thing, raised, thing, -1, -1)

    def test_by_names(self):
        self.assertEqual(raised(start=1, term=app(A, B), by=3), app(A, at(4)))


class Giving(unittest.TestCase):
    def test_left_out(self):
        self.assertEqual(giving(A, K), K)
        self.assertEqual(giving(app(A, B, C), NAT), app(NAT, A, B))

    def test_below_at_and_above_the_number(self):
        term = app(A, B, C, at(3))
        self.assertEqual(giving(term, K, 0), app(K, A, B, C))
        self.assertEqual(giving(term, K, 1), app(A, K, B, C))
        self.assertEqual(giving(term, K, 2), app(A, B, K, C))
        self.assertEqual(giving(term, K, 3), app(A, B, C, K))
        self.assertEqual(giving(term, K, 4), term)
        self.assertEqual(giving(term, K, 999), term)

    def test_raised_as_many_as_there_are_binders(self):
        term = app(A, fun(A, app(A, B, every(C, app(A, B, C, at(3))))))
        other = app(A, at(4), fun(K, A))
        once = app(B, at(5), fun(K, A))
        twice = app(C, at(6), fun(K, A))
        told = app(other, fun(other, app(A, once, every(B, app(A, B, twice, C)))))
        self.assertEqual(giving(term, other), told)

    def test_under_a_number_of_its_own(self):
        # The other one is not raised by the number itself.
        self.assertEqual(giving(app(A, B), A, 1), app(A, A))
        self.assertEqual(giving(fun(K, app(A, B, C)), A, 1), fun(K, app(A, B, B)))
        self.assertEqual(giving(fun(B, fun(C, at(3))), at(8), 1), fun(at(8), fun(at(9), at(10))))

    def test_bound_places_of_the_other_one_stay(self):
        self.assertEqual(giving(fun(K, B), fun(A, app(A, B))), fun(K, fun(B, app(A, C))))

    def test_binders_are_of_all_and_fun_alone(self):
        self.assertEqual(giving(("same", A, A, A), at(5)), ("same", at(5), at(5), at(5)))
        self.assertEqual(giving(("self", A, A), at(5)), ("self", at(5), at(5)))
        self.assertEqual(giving(("put", A, A, A), at(5)), ("put", at(5), at(5), at(5)))
        self.assertEqual(giving(("all", A, B), at(5)), ("all", at(5), at(6)))
        self.assertEqual(giving(("fun", A, B), at(5)), ("fun", at(5), at(6)))

    def test_what_is_given_nothing(self):
        closed = every(K, every(A, app(B, SUCC)))
        self.assertEqual(giving(closed, at(3)), closed)
        for leaf in LEAVES:
            if leaf[0] != "at":
                self.assertEqual(giving(leaf, at(3)), leaf)

    def test_numbers_from_0_to_999(self):
        self.assertEqual(giving(at(999), ZERO, 999), ZERO)
        self.assertEqual(giving(at(1000), ZERO, 999), at(999))
        self.assertEqual(giving(fun(K, at(1000)), A, 999), fun(K, B))
        for thing in [*NO_WHOLES, 1000]:
            refused(self, NoNumber, thing, giving, A, A, thing)
            refused(self, NoNumber, thing, giving, A, A, number=thing)

    def test_refusals_in_order(self):
        term, other, number = ("at",), ["at", 0], [1]
        refused(self, NoTerm, term, giving, term, other, number)
        refused(self, NoTerm, term, giving, number=number, other=other, term=term)
        refused(self, NoTerm, other, giving, A, other, number)
        refused(self, NoTerm, other, giving, A, other)
        refused(self, NoNumber, number, giving, A, A, number)
        for thing in NO_TERMS:
            refused(self, NoTerm, thing, giving, thing, A)
            # It is looked at where no place takes it, too.
            refused(self, NoTerm, thing, giving, K, thing)

    def test_by_names(self):
        self.assertEqual(giving(number=1, other=K, term=app(A, B, C)), app(A, K, B))


class Lowered(unittest.TestCase):
    def test_where_0_is_free(self):
        for term in [A, fun(A, A), fun(K, B), app(C, A), every(K, every(K, C)), OPEN_TERM]:
            self.assertIs(lowered(term), None, term)

    def test_where_0_is_not_free(self):
        self.assertEqual(lowered(B), A)
        self.assertEqual(lowered(app(B, at(7))), app(A, at(6)))
        self.assertEqual(lowered(fun(B, app(A, C))), fun(A, app(A, B)))
        self.assertEqual(lowered(every(K, every(A, app(A, B, at(3))))), every(K, every(A, app(A, B, C))))

    def test_without_free_places(self):
        for term in [K, NAT, fun(K, A), every(K, fun(A, B))]:
            self.assertEqual(lowered(term), term)

    def test_no_term(self):
        for thing in NO_TERMS:
            refused(self, NoTerm, thing, lowered, thing)

    def test_by_name(self):
        self.assertEqual(lowered(term=B), A)


if __name__ == "__main__":
    unittest.main()
