"""Point 21: what is a row."""

import unittest
from kernelpapers.things import is_row
from samples import A, B, C, K, NAT, NOTHINGS, NO_TERMS, ROWS, TERMS, at, every, fun, nested

MAKER = (A, B, C, K)


class Rows(unittest.TestCase):
    def test_of_the_three_sorts(self):
        for row in ROWS:
            self.assertIs(is_row(row), True, row)

    def test_no_bounds_and_three(self):
        for many in range(6):
            self.assertIs(is_row(("thing", "a", 0, (K,) * many, ())), many <= 3, many)

    def test_no_makers_and_five(self):
        for many in range(8):
            self.assertIs(is_row(("thing", "a", 0, (), ((),) * many)), many <= 5, many)

    def test_no_arguments_and_four(self):
        for many in range(7):
            self.assertIs(is_row(("thing", "a", 0, (), ((), (K,) * many))), many <= 4, many)
            self.assertIs(is_row(("thing", "a", 0, (), ((K,) * many, ()))), many <= 4, many)

    def test_all_at_their_most(self):
        self.assertIs(is_row(("thing", "abcdefgh", 5, (K, A, B), (MAKER, MAKER, MAKER, MAKER, MAKER))), True)

    def test_heights(self):
        for height in range(-3, 10):
            self.assertIs(is_row(("thing", "a", height, (), ())), 0 <= height <= 5)
        for thing in [*NOTHINGS, "0", (), (0,), K]:
            self.assertIs(is_row(("thing", "a", thing, (), ())), False, thing)

    def test_names(self):
        for name in ["a", "abcdefgh", "thing", "mean", "hold", "at"]:
            for row in (("thing", name, 0, (), ()), ("mean", name, K, K), ("hold", name, K)):
                self.assertIs(is_row(row), True, row)
        for name in [*NOTHINGS, "abcdefghi", "all", "fun", "same", "self", "put", "A", 0, (), ("a",), ["a"]]:
            for row in (("thing", name, 0, (), ()), ("mean", name, K, K), ("hold", name, K)):
                self.assertIs(is_row(row), False, row)

    def test_any_terms(self):
        # Whether their places are there is not looked at.
        for term in [*TERMS, at(998), fun(K, at(500))]:
            self.assertIs(is_row(("thing", "a", 0, (term, term), ((term,), (term, term)))), True)
            self.assertIs(is_row(("mean", "a", term, term)), True)
            self.assertIs(is_row(("hold", "a", term)), True)

    def test_what_grows_as_it_mayn_t_is_a_row(self):
        self.assertIs(is_row(("thing", "nat", 0, (), ((every(NAT, K),),))), True)

    def test_no_terms(self):
        for thing in NO_TERMS:
            for row in (("thing", "a", 0, (thing,), ()), ("thing", "a", 0, (K, A, thing), ()),
                        ("thing", "a", 0, (), ((thing,),)), ("thing", "a", 0, (), ((), (K, K, thing, K))),
                        ("mean", "a", thing, K), ("mean", "a", K, thing), ("hold", "a", thing)):
                self.assertIs(is_row(row), False, row)

    def test_no_tuples(self):
        for thing in [*NOTHINGS, 0, "a", [K], [()], [(K,)]]:
            self.assertIs(is_row(("thing", "a", 0, thing, ())), False, thing)
            self.assertIs(is_row(("thing", "a", 0, (), thing)), False, thing)
            self.assertIs(is_row(("thing", "a", 0, (), ((), thing))), False, thing)
        for row in (["thing", "a", 0, (), ()], ["mean", "a", K, K], ["hold", "a", K], ("thing", "a", 0, [], ()),
                    ("thing", "a", 0, (), []), ("thing", "a", 0, (), ([],)), ("thing", "a", 0, K, ()),
                    ("thing", "a", 0, (), K), ("thing", "a", 0, (), (K,)), ("hold", "a", list(K))):
            self.assertIs(is_row(row), False, row)

    def test_a_thing_too_many_or_too_few(self):
        for row in [("thing", "a", 0, ()), ("thing", "a", 0), ("thing", "a"), ("thing",), ("thing", "a", 0, (), (), ()),
                    ("mean", "a", K), ("mean", "a"), ("mean",), ("mean", "a", K, K, K), ("mean", "a", 0, (), ()),
                    ("hold", "a"), ("hold",), ("hold", "a", K, K), ("hold", "a", 0, (), ()), ()]:
            self.assertIs(is_row(row), False, row)

    def test_other_things(self):
        for thing in [*NOTHINGS, *TERMS, 0, 1, "thing", ("a", "thing", 0, (), ()), ("things", "a", 0, (), ()), (0, "a", K),
                      (None, "a", K), (["hold"], "a", K), (("hold",), "a", K), ("Hold", "a", K), ("hold ", "a", K),
                      (True, "a", K), ({}, "a", K), nested("tuple", 60)]:
            self.assertIs(is_row(thing), False, thing)

    def test_by_name(self):
        self.assertIs(is_row(thing=("hold", "a", K)), True)


if __name__ == "__main__":
    unittest.main()
