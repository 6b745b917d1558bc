"""Point 23: where a thing grows otherwise than it may, and its own arguments."""

import unittest
from kernelpapers.errors import NoNumber, NoRow
from kernelpapers.things import owns, ungrown
from samples import (A, AXIOM, B, C, K, LIST, NATS, NAT, NONE, NO_TERMS, NO_WHOLES, PLUS, ROWS, SUCC, TREE, app, at, every,
                     fun, refused)

T = ("thing", "me")
MADE = ("maker", "me", 0)
EATER = ("eater", "me", 3)
OTHER = ("thing", "you")
HEADS = [T, MADE, ("maker", "me", 99), EATER]


def row(bounds, *makers):
    return ("thing", "me", 0, bounds, makers)


class Grown(unittest.TestCase):
    def test_samples(self):
        for grown in (NATS, NONE, LIST, TREE):
            self.assertIsNone(ungrown(grown))

    def test_no_makers_and_no_arguments(self):
        self.assertIsNone(ungrown(row(())))
        self.assertIsNone(ungrown(row((K, K, K))))
        self.assertIsNone(ungrown(row((), (), (), (), (), ())))

    def test_the_thing_given_just_its_bounds(self):
        self.assertIsNone(ungrown(row((), (T,))))
        self.assertIsNone(ungrown(row((K,), (app(T, A),))))
        self.assertIsNone(ungrown(row((K, K, K), (app(T, C, B, A),))))
        self.assertIsNone(ungrown(row((K, K, K), (K, K, app(T, at(4), at(3), C), app(T, at(5), at(4), at(3))))))

    def test_behind_sayings_between(self):
        self.assertIsNone(ungrown(row((), (every(K, T),))))
        self.assertIsNone(ungrown(row((K,), (every(A, app(T, B)),))))
        self.assertIsNone(ungrown(row((K,), (K, every(A, every(OTHER, every(fun(K, A), app(T, at(4)))))))))

    def test_the_thing_nowhere(self):
        self.assertIsNone(ungrown(row((K,), (OTHER, every(OTHER, app(OTHER, B)), ("maker", "you", 0), SUCC))))

    def test_the_thing_in_the_bounds_is_not_asked_here(self):
        self.assertIsNone(ungrown(row((T, app(T, T)), (app(T, B, A),))))


class Ungrown(unittest.TestCase):
    def test_other_bounds(self):
        self.assertEqual(ungrown(row((K,), (app(T, K),))), (0, 0, (0,)))
        self.assertEqual(ungrown(row((K,), (app(T, B),))), (0, 0, (0,)))
        self.assertEqual(ungrown(row((K,), (app(T, app(T, A)),))), (0, 0, (0,)))

    def test_bounds_as_they_stand_for_another_argument(self):
        # In the second argument the bound is the place 1, under one saying between the place 2.
        self.assertEqual(ungrown(row((K,), (K, app(T, A)))), (0, 1, (0,)))
        self.assertEqual(ungrown(row((K,), (K, every(K, app(T, B))))), (0, 1, (1, 0)))
        self.assertIsNone(ungrown(row((K,), (K, every(K, app(T, C))))))

    def test_fewer(self):
        self.assertEqual(ungrown(row((K,), (T,))), (0, 0, ()))
        self.assertEqual(ungrown(row((K, K), (app(T, B),))), (0, 0, (0,)))
        self.assertEqual(ungrown(row((K, K), (every(K, app(T, C)),))), (0, 0, (1, 0)))

    def test_more(self):
        self.assertEqual(ungrown(row((), (app(T, K),))), (0, 0, (0,)))
        self.assertEqual(ungrown(row((K,), (app(T, A, A),))), (0, 0, (0, 0)))
        self.assertEqual(ungrown(row((K,), (app(T, A, app(T, A)),))), (0, 0, (0, 0)))

    def test_in_another_order(self):
        self.assertEqual(ungrown(row((K, K), (app(T, A, B),))), (0, 0, (0, 0)))
        self.assertEqual(ungrown(row((K, K, K), (app(T, C, A, B),))), (0, 0, (0, 0, 0)))

    def test_to_the_left(self):
        self.assertEqual(ungrown(row((), (every(T, T),))), (0, 0, (0,)))
        self.assertEqual(ungrown(row((), (every(every(T, K), T),))), (0, 0, (0, 0)))
        self.assertEqual(ungrown(row((), (every(every(K, T), T),))), (0, 0, (0, 1)))
        self.assertEqual(ungrown(row((K,), (every(K, every(app(T, B), app(T, C))),))), (0, 0, (1, 0, 0)))

    def test_maker_or_eater_in_the_place_of_the_thing(self):
        for head in HEADS[1:]:
            self.assertEqual(ungrown(row((), (head,))), (0, 0, ()))
            self.assertEqual(ungrown(row((K,), (app(head, A),))), (0, 0, (0,)))
            self.assertEqual(ungrown(row((), (every(head, T),))), (0, 0, (0,)))
            self.assertEqual(ungrown(row((), (every(K, head),))), (0, 0, (1,)))

    def test_in_other_words(self):
        for head in HEADS:
            self.assertEqual(ungrown(row((), (fun(K, head),))), (0, 0, (1,)))
            self.assertEqual(ungrown(row((), (fun(head, K),))), (0, 0, (0,)))
            self.assertEqual(ungrown(row((), (app(OTHER, head),))), (0, 0, (1,)))
            self.assertEqual(ungrown(row((), (("same", K, OTHER, head),))), (0, 0, (2,)))
            self.assertEqual(ungrown(row((), (("self", head, head),))), (0, 0, (0,)))
            self.assertEqual(ungrown(row((), (("put", K, head, head),))), (0, 0, (1,)))

    def test_own_name_alone(self):
        for head in [OTHER, ("maker", "you", 0), ("eater", "you", 3), ("name", "me"), ("thing", "mee")]:
            self.assertIsNone(ungrown(row((), (head, every(head, T), app(head, head)))))

    def test_the_least_spot_is_told(self):
        self.assertEqual(ungrown(row((), (every(T, every(MADE, EATER)),))), (0, 0, (0,)))
        self.assertEqual(ungrown(row((), (every(K, every(MADE, EATER)),))), (0, 0, (1, 0)))
        self.assertEqual(ungrown(row((), (every(K, every(app(K, EATER, T), T)),))), (0, 0, (1, 0, 0, 1)))
        self.assertEqual(ungrown(row((), (app(K, app(K, K, T), T),))), (0, 0, (0, 1, 1)))
        self.assertEqual(ungrown(row((), (("put", K, app(K, T), T),))), (0, 0, (1, 1)))

    def test_the_thing_where_it_may_is_not_told(self):
        # The least spot of all would be that of the first of these; it grows where it may.
        self.assertEqual(ungrown(row((), (T, every(K, T), every(T, T)))), (0, 2, (0,)))

    def test_the_end_is_told_where_it_is_given_otherwise(self):
        self.assertEqual(ungrown(row((K,), (every(K, app(T, A)),))), (0, 0, (1, 0)))
        self.assertEqual(ungrown(row((K,), (every(app(T, A), app(T, A)),))), (0, 0, (0, 0)))

    def test_the_first_maker_and_the_first_argument(self):
        bad, worse = every(T, T), fun(T, T)
        self.assertEqual(ungrown(row((), (), (T, K, bad, worse), (worse,))), (1, 2, (0,)))
        self.assertEqual(ungrown(row((), (T,), (K,), (), (K, T, K, fun(K, T)), (bad,))), (3, 3, (1,)))
        self.assertEqual(ungrown(row((), (fun(K, T),), (bad,))), (0, 0, (1,)))

    def test_the_kinds_of_what_is_told(self):
        told = ungrown(row((), (every(T, T),)))
        self.assertIs(told.__class__, tuple)
        self.assertIs(told[2].__class__, tuple)

    def test_no_row_of_a_thing(self):
        for thing in [*NO_TERMS, PLUS, AXIOM, NAT, ("thing", "me", 0, (), [()]), ("thing", "all", 0, (), ())]:
            refused(self, NoRow, thing, ungrown, thing)

    def test_by_name(self):
        self.assertIsNone(ungrown(row=NATS))


class Owns(unittest.TestCase):
    def test_samples(self):
        self.assertEqual(owns(NATS, 0), [])
        self.assertEqual(owns(NATS, 1), [(0, [])])
        self.assertEqual(owns(LIST, 0), [])
        self.assertEqual(owns(LIST, 1), [(1, [])])
        self.assertEqual(owns(TREE, 0), [(1, [app(B, A)])])

    def test_several_with_and_without_sayings_between(self):
        told = row((K,), (A, app(T, B), every(C, app(T, at(3))), every(K, every(A, app(T, at(5))))))
        self.assertEqual(owns(told, 0), [(1, []), (2, [C]), (3, [K, A])])

    def test_each_maker_has_its_own(self):
        told = row((), (), (T,), (K, every(K, T)), (K, K, K, K), (T, T, T, T))
        self.assertEqual([owns(told, maker) for maker in range(5)],
                         [[], [(0, [])], [(1, [K])], [], [(0, []), (1, []), (2, []), (3, [])]])

    def test_where_it_stands_otherwise_it_is_no_own_one(self):
        for saying in [every(T, T), every(K, every(MADE, T)), every(EATER, T), fun(K, T), app(T, K), MADE, EATER,
                       every(K, MADE), every(every(K, T), T)]:
            self.assertEqual(owns(row((), (saying, T, saying)), 0), [(1, [])], saying)

    def test_otherwise_given_it_is_no_own_one(self):
        told = row((K, K), (app(T, A, B), app(T, C, B), app(T, at(3)), every(K, app(T, at(5), at(4)))))
        self.assertEqual(owns(told, 0), [(1, []), (3, [K])])
        self.assertEqual(owns(row((K,), (T, app(T, B), app(T, C, C))), 0), [(1, [])])

    def test_lists_are_new_each_time_and_inner_ones_too(self):
        told = owns(TREE, 0)
        self.assertIs(told.__class__, list)
        self.assertIs(told[0].__class__, tuple)
        self.assertIs(told[0][1].__class__, list)
        told[0][1].append(K)
        told.append(K)
        self.assertEqual(owns(TREE, 0), [(1, [app(B, A)])])

    def test_no_row_goes_first(self):
        for thing in [*NO_TERMS, PLUS, AXIOM, NAT]:
            refused(self, NoRow, thing, owns, thing, 0)
            refused(self, NoRow, thing, owns, thing, [7])

    def test_no_makers_number(self):
        for known in ROWS[:4]:
            for number in [*NO_WHOLES, len(known[4]), 99, 10 ** 29]:
                refused(self, NoNumber, number, owns, known, number)

    def test_by_names(self):
        self.assertEqual(owns(maker=1, row=NATS), [(0, [])])


if __name__ == "__main__":
    unittest.main()
