"""Point 15: a head given several terms, and a term opened."""

import unittest
from kernelpapers.errors import NoTerm
from kernelpapers.terms import applied, opened
from samples import A, B, C, K, LEAVES, NAT, NO_TERMS, NOTHINGS, SUCC, TERMS, ZERO, at, every, fun, refused


class Applied(unittest.TestCase):
    def test_one_behind_another(self):
        self.assertEqual(applied(SUCC, [A]), ("app", SUCC, A))
        self.assertEqual(applied(A, [B, C, K]), ("app", ("app", ("app", A, B), C), K))
        self.assertEqual(applied(A, (B, C, K)), ("app", ("app", ("app", A, B), C), K))

    def test_given_none(self):
        for term in TERMS:
            self.assertEqual(applied(term, []), term)
            self.assertEqual(applied(term, ()), term)

    def test_a_head_that_is_an_app(self):
        self.assertEqual(applied(("app", A, B), [C]), ("app", ("app", A, B), C))
        self.assertEqual(applied(A, [("app", B, C)]), ("app", A, ("app", B, C)))

    def test_a_hundred(self):
        some = [at(number) for number in range(100)]
        self.assertEqual(opened(applied(K, some)), (K, some))

    def test_what_is_no_list_or_tuple(self):
        for thing in NOTHINGS:
            if not isinstance(thing, (list, tuple)):
                refused(self, NoTerm, thing, applied, A, thing)
        for thing in (0, 1, "", "at", {"at": 0}, {}):
            refused(self, NoTerm, thing, applied, A, thing)

    def test_a_term_in_the_place_of_the_list(self):
        # It is a tuple, so its things are looked at: the first is a text.
        word = "app"
        refused(self, NoTerm, word, applied, A, (word, A, B))

    def test_the_first_thing_that_is_no_term(self):
        for thing in NO_TERMS:
            refused(self, NoTerm, thing, applied, A, [thing])
            refused(self, NoTerm, thing, applied, A, [A, B, thing, ("at",), None])
            refused(self, NoTerm, thing, applied, A, (A, thing, [], thing))

    def test_refusals_in_order(self):
        head, some = ("kind", 6), {"a": 1}
        refused(self, NoTerm, head, applied, head, some)
        refused(self, NoTerm, head, applied, head, [("at",)])
        refused(self, NoTerm, some, applied, A, some)
        for thing in NO_TERMS:
            refused(self, NoTerm, thing, applied, thing, [])

    def test_what_was_handed_in_stays(self):
        some = [A, B]
        applied(K, some)
        self.assertEqual(some, [A, B])

    def test_by_names(self):
        self.assertEqual(applied(some=[B], head=A), ("app", A, B))


class Opened(unittest.TestCase):
    def test_in_order(self):
        self.assertEqual(opened(("app", ("app", ("app", A, B), C), K)), (A, [B, C, K]))
        self.assertEqual(opened(("app", SUCC, ("app", SUCC, ZERO))), (SUCC, [("app", SUCC, ZERO)]))
        self.assertEqual(opened(("app", ("app", fun(NAT, A), B), C)), (fun(NAT, A), [B, C]))

    def test_what_is_no_app(self):
        for term in [*LEAVES, every(A, B), fun(A, ("app", A, B)), ("self", A, B), ("same", A, B, C), ("put", A, B, C)]:
            self.assertEqual(opened(term), (term, []))

    def test_the_kinds_of_what_is_told(self):
        told = opened(("app", A, B))
        self.assertIs(told.__class__, tuple)
        self.assertIs(told[1].__class__, list)

    def test_a_new_list_each_time(self):
        term = ("app", A, B)
        opened(term)[1].append(K)
        self.assertEqual(opened(term), (A, [B]))
        opened(A)[1].append(K)
        self.assertEqual(opened(A), (A, []))

    def test_opened_and_applied(self):
        for term in [*TERMS, ("app", ("app", A, ("app", B, C)), ("app", K, A))]:
            self.assertEqual(applied(*opened(term)), term)

    def test_no_term(self):
        for thing in NO_TERMS:
            refused(self, NoTerm, thing, opened, thing)

    def test_by_name(self):
        self.assertEqual(opened(term=A), (A, []))


if __name__ == "__main__":
    unittest.main()
