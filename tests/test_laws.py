"""Point 16, and what holds of places of all terms: reckoned on many terms, and held against terms with names."""

import unittest
from kernelpapers.terms import binders_at, changed, free, giving, is_term, lowered, part_at, raised, size, spots
from samples import TERMS, Maker, by_places, put_for

ROOM = ("ra", "rb", "rc", "rd")


def many_terms(seed, many):
    maker = Maker(seed)
    return TERMS + [by_places(maker.term(ROOM), ROOM) for _ in range(many)]


class Laws(unittest.TestCase):
    def test_raised_by_none_it_is_itself(self):
        for term in many_terms(1, 150):
            for start in range(4):
                self.assertEqual(raised(term, 0, start), term)

    def test_raised_and_given_at_the_place_in_between_it_is_itself(self):
        for term in many_terms(2, 150):
            for number in range(5):
                for other in TERMS[::5]:
                    self.assertEqual(giving(raised(term, 1, number), other, number), term)

    def test_inwards_or_outwards_first_is_the_same(self):
        terms = many_terms(3, 60)
        for at, term in enumerate(terms):
            inner, outer = terms[at - 1], terms[at - 2]
            for low in range(3):
                for high in range(low, 4):
                    one = giving(giving(term, inner, low), outer, high)
                    told = giving(term, raised(outer, 1, low), high + 1)
                    self.assertEqual(one, giving(told, giving(inner, outer, high), low))

    def test_lowered_and_raised_by_one_it_is_itself(self):
        seen = {True: 0, False: 0}
        for term in many_terms(4, 300):
            told = lowered(term)
            seen[told is None] += 1
            self.assertEqual(told is None, 0 in free(term))
            if told is not None:
                self.assertEqual(raised(told), term)
                self.assertEqual(free(told), [place - 1 for place in free(term)])
        self.assertTrue(seen[True] > 30 and seen[False] > 30)

    def test_raised_in_two_goes(self):
        for term in many_terms(5, 150):
            for start in range(3):
                self.assertEqual(raised(raised(term, 2, start), 3, start), raised(term, 5, start))
                self.assertEqual(raised(raised(term, 2, start), 3, start + 1), raised(term, 5, start))

    def test_free_places_of_what_is_raised(self):
        for term in many_terms(6, 150):
            for start in range(3):
                told = [place + 4 if place >= start else place for place in free(term)]
                self.assertEqual(free(raised(term, 4, start)), told)

    def test_spots_and_parts(self):
        for term in many_terms(7, 100):
            self.assertEqual(len(spots(term)), size(term))
            found = {part_at(term, spot)[1] - binders_at(term, spot)
                     for spot in spots(term) if part_at(term, spot)[0] == "at"}
            self.assertEqual(free(term), sorted(place for place in found if place >= 0))
            for spot in spots(term):
                other = ("self", ("at", 0), ("kind", 1))
                made = changed(term, spot, other)
                self.assertTrue(is_term(made))
                self.assertEqual(size(made), size(term) - size(part_at(term, spot)) + 3)


class AgainstNames(unittest.TestCase):
    def test_raised(self):
        maker = Maker(8)
        for _ in range(200):
            named = maker.term(ROOM)
            term = by_places(named, ROOM)
            for start in range(len(ROOM) + 1):
                for by in range(3):
                    cut = len(ROOM) - start
                    wider = (*ROOM[:cut], *[f"more{number}" for number in range(by)], *ROOM[cut:])
                    self.assertEqual(raised(term, by, start), by_places(named, wider))

    def test_giving(self):
        maker = Maker(9)
        for _ in range(200):
            for number in range(len(ROOM)):
                name = ROOM[-1 - number]
                rest = tuple(other for other in ROOM if other != name)
                named, other = maker.term(ROOM), maker.term(rest, 2)
                told = by_places(put_for(named, name, other), rest)
                self.assertEqual(giving(by_places(named, ROOM), by_places(other, rest), number), told)

    def test_lowered(self):
        maker = Maker(10)
        for _ in range(200):
            named = maker.term(ROOM)
            wider = (*ROOM, "near")
            self.assertEqual(lowered(by_places(named, wider)), by_places(named, ROOM))
            self.assertIsNone(lowered(by_places(("app", named, ("var", "near")), wider)))


if __name__ == "__main__":
    unittest.main()
