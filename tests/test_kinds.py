"""Points 2 and 11: whole numbers, names, terms, spots."""

import unittest
from kernelpapers.terms import is_name, is_spot, is_term, is_whole
from samples import A, K, NOTHINGS, NO_TERMS, NO_WHOLES, ROWS, TERMS, nested


class Wholes(unittest.TestCase):
    def test_both_bounds_are_with(self):
        for number, told in [(-3, False), (-2, True), (0, True), (4, True), (5, True), (6, False)]:
            self.assertIs(is_whole(number, -2, 5), told, number)

    def test_one_number_and_none(self):
        self.assertIs(is_whole(7, 7, 7), True)
        self.assertIs(is_whole(7, 8, 6), False)

    def test_thirty_figures(self):
        big = 10 ** 30 - 1
        self.assertIs(is_whole(big, 0, big), True)
        self.assertIs(is_whole(-big, -big, 0), True)
        self.assertIs(is_whole(big, 0, big - 1), False)
        self.assertIs(is_whole(-big, 1 - big, 0), False)

    def test_truths_are_none(self):
        self.assertIs(is_whole(True, 0, 5), False)
        self.assertIs(is_whole(False, 0, 5), False)
        self.assertIs(is_whole(True, -1, 1), False)

    def test_other_things_are_none(self):
        for thing in [*NO_WHOLES, *NO_TERMS]:
            if not isinstance(thing, int) or isinstance(thing, bool):
                self.assertIs(is_whole(thing, -10 ** 30, 10 ** 30), False, thing)

    def test_by_names(self):
        self.assertIs(is_whole(high=3, low=1, thing=2), True)
        self.assertIs(is_whole(high=3, low=1, thing=0), False)


class Names(unittest.TestCase):
    def test_names(self):
        for name in ["a", "z", "nat", "abcdefgh", "al", "allx", "xall", "at", "kind", "app", "name", "thing", "maker",
                     "eater", "alls", "puts", "mean", "hold", "x"]:
            self.assertIs(is_name(name), True, name)

    def test_each_letter(self):
        for number in range(0x250):
            self.assertIs(is_name(chr(number)), 97 <= number <= 122, number)
            self.assertIs(is_name("a" + chr(number)), 97 <= number <= 122, number)

    def test_none_and_nine_letters(self):
        self.assertIs(is_name(""), False)
        self.assertIs(is_name("abcdefghi"), False)
        self.assertIs(is_name("a" * 4000), False)

    def test_the_five_texts(self):
        for text in ["all", "fun", "same", "self", "put"]:
            self.assertIs(is_name(text), False, text)

    def test_other_things(self):
        for thing in [*NOTHINGS, 0, 1, (), ("a",), ["a"], {"a": 1}, "A", "aB", "a1", "a_b", "a b", " a", "a ", "a\n", "-", b"a",
                      nested("tuple", 60)]:
            self.assertIs(is_name(thing), False, thing)

    def test_by_name(self):
        self.assertIs(is_name(thing="a"), True)


class Terms(unittest.TestCase):
    def test_each_word(self):
        self.assertEqual(len({term[0] for term in TERMS}), 12)
        for term in TERMS:
            self.assertIs(is_term(term), True, term)

    def test_within_one_another(self):
        for word, many in [("all", 2), ("fun", 2), ("app", 2), ("same", 3), ("self", 2), ("put", 3)]:
            for inner in TERMS:
                for place in range(many):
                    some = [A] * many
                    some[place] = inner
                    self.assertIs(is_term((word, *some)), True)

    def test_what_is_none(self):
        for thing in NO_TERMS:
            self.assertIs(is_term(thing), False, thing)

    def test_what_is_none_within(self):
        for word, many in [("all", 2), ("fun", 2), ("app", 2), ("same", 3), ("self", 2), ("put", 3)]:
            for thing in NO_TERMS:
                for place in range(many):
                    some = [A] * many
                    some[place] = thing
                    self.assertIs(is_term((word, *some)), False, thing)

    def test_heights(self):
        for height in range(-2, 9):
            self.assertIs(is_term(("kind", height)), 0 <= height <= 5)
            self.assertIs(is_term(("eater", "nat", height)), 0 <= height <= 5)

    def test_numbers_of_parts(self):
        words = {"all": 2, "fun": 2, "app": 2, "same": 3, "self": 2, "put": 3}
        for word, many in words.items():
            for more in range(7):
                self.assertIs(is_term((word, *[K] * more)), more == many, (word, more))

    def test_rows_are_none(self):
        for row in ROWS:
            self.assertIs(is_term(row), False)

    def test_by_name(self):
        self.assertIs(is_term(thing=A), True)


class Spots(unittest.TestCase):
    def test_spots(self):
        for spot in [(), (0,), (0, 1, 2), (10 ** 29,), (7,) * 60, (0,) * 100]:
            self.assertIs(is_spot(spot), True, spot)

    def test_what_is_none(self):
        for thing in [*NOTHINGS, 0, 1, "0", [], [0], (0, -1), (-1,), (True,), (0, False), (None,), ("0",), ((),), ((0,),),
                      ([0],), (0, {}), {0: 0}, nested("tuple", 60), A]:
            self.assertIs(is_spot(thing), False, thing)

    def test_by_name(self):
        self.assertIs(is_spot(thing=(1,)), True)


if __name__ == "__main__":
    unittest.main()
