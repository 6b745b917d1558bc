"""Points 44 and 45: what of a ground or a room isn't sound, and what holds of sound ones."""

import unittest
from itertools import product
from kernelpapers.errors import NoGround, NoPaper, NoRoom
from kernelpapers.grounds import Ground
from kernelpapers.kernel import saying_of, unsound, unsound_room
import plain
from goods import CODES, GROUND, IDS, ORDS, PLUS, ROWS, TWICE, WIDE, LEAVES, Goods, number, spoiled
from samples import (A, AXIOM, B, C, K, LIST, NAT, NATS, NONE, NO_GROUNDS, NO_ROOMS, SUCC, TREE, ZERO, app, at, every, fun,
                     refused)

ME = ("thing", "me")


def kind(height):
    return ("kind", height)


def thing(bounds, *makers, height=0):
    return ("thing", "me", height, bounds, makers)


class Faults(unittest.TestCase):
    def tells(self, row, told, ahead=(NATS, LIST)):
        """The row fails so, at the number at which it stands; None where it is sound."""
        ground = Ground([*ahead, row])
        self.assertEqual(unsound(ground), None if told is None else (len(ahead), *told))
        self.assertEqual(plain.unsound(Ground, ground), unsound(ground))


class Sound(Faults):
    def test_samples(self):
        self.assertIsNone(unsound(Ground()))
        self.assertIsNone(unsound(GROUND))
        for many in range(len(ROWS)):
            self.assertIsNone(unsound(Ground(ROWS[:many])))

    def test_by_name(self):
        self.assertIsNone(unsound(ground=Ground()))
        self.assertIsNone(unsound_room(room=[], ground=Ground()))

    def test_24_rows(self):
        rows = [("mean", "m" + chr(97 + at), NAT, app(SUCC, ("name", "m" + chr(96 + at))) if at else ZERO) for at in range(23)]
        self.assertIsNone(unsound(Ground([NATS, *rows])))
        self.assertEqual(unsound(Ground([NATS, *rows[:10], *rows[11:], rows[10]])), (11, ("term",), (1,), "name"))
        last = ("hold", "last", ("name", "ma"))
        self.assertEqual(unsound(Ground([NATS, *rows[:22], last])), (23, ("saying",), (), "kind"))

    def test_names_stand_for_rows_ahead_alone(self):
        uses = ("mean", "two", ("thing", "nat"), number(2))
        self.assertIsNone(unsound(Ground([NATS, uses])))
        self.assertEqual(unsound(Ground([uses, NATS])), (0, ("saying",), (), "name"))
        self.assertEqual(unsound(Ground([("mean", "me", K, ("name", "me"))])), (0, ("term",), (), "name"))
        self.assertEqual(unsound(Ground([("hold", "me", ("name", "me"))])), (0, ("saying",), (), "name"))

    def test_the_first_row_that_fails(self):
        bad, worse = ("hold", "bad", ZERO), ("hold", "worse", at(3))
        self.assertEqual(unsound(Ground([NATS, bad, worse])), (1, ("saying",), (), "kind"))
        self.assertEqual(unsound(Ground([NATS, worse, bad])), (1, ("saying",), (), "place"))
        # What comes of believing an unsound row is not looked at.
        self.assertEqual(unsound(Ground([("mean", "loop", K, ("name", "loop")), ("hold", "on", ("name", "loop"))])),
                         (0, ("term",), (), "name"))


class Bounds(Faults):
    def test_sound(self):
        for bounds in [(), (K,), (K, A), (K, A, B), (kind(4),), (NAT,), (K, every(A, K)), (NAT, ("same", NAT, A, ZERO))]:
            self.tells(thing(bounds), None)

    def test_what_has_no_kind(self):
        self.tells(thing((ZERO,)), (("bound", 0), (), "kind"))
        self.tells(thing((K, NAT, B)), None)
        self.tells(thing((K, NAT, A)), (("bound", 2), (), "kind"))
        self.tells(thing((K, SUCC)), (("bound", 1), (), "kind"))

    def test_what_the_kernel_refuses(self):
        self.tells(thing((A,)), (("bound", 0), (), "place"))
        self.tells(thing((K, every(A, at(2)))), (("bound", 1), (1,), "place"))
        self.tells(thing((kind(5),)), (("bound", 0), (), "height"))
        self.tells(thing((K, K, app(LIST_THING, NAT, NAT))), (("bound", 2), (0,), "all"))

    def test_the_thing_itself_is_not_there_yet(self):
        self.tells(thing((ME,)), (("bound", 0), (), "name"))
        self.tells(thing((K, ("maker", "me", 0)), ()), (("bound", 1), (), "name"))

    def test_bounds_ahead_of_makers(self):
        self.tells(thing((K, ZERO), (fun(ME, ME),)), (("bound", 1), (), "kind"))
        # The bounds may be of greater kinds than the thing.
        self.tells(thing((kind(4),), (), height=0), None)


LIST_THING = ("thing", "list")


class Makers(Faults):
    def test_sound(self):
        for row in (NONE, TREE, WIDE, CODES, ORDS):
            self.tells(row, None)
        self.tells(thing((K,), (A, every(B, app(ME, C)))), None)

    def test_where_it_does_not_grow(self):
        self.tells(thing((), (every(ME, ME),)), (("maker", 0, 0), (0,), "growing"))
        self.tells(thing((), (), (NAT, every(NAT, every(ME, ME)))), (("maker", 1, 1), (1, 0), "growing"))
        self.tells(thing((K,), (app(ME, NAT),)), (("maker", 0, 0), (0,), "growing"))
        self.tells(thing((K,), (ME,)), (("maker", 0, 0), (), "growing"))
        self.tells(thing((), (app(LIST_THING, ME),)), (("maker", 0, 0), (1,), "growing"))
        self.tells(thing((), (("maker", "me", 0),)), (("maker", 0, 0), (), "growing"))
        self.tells(thing((), (app(("eater", "me", 0), fun(NAT, ME)),)), (("maker", 0, 0), (0,), "growing"))

    def test_what_has_no_kind(self):
        self.tells(thing((), (ZERO,)), (("maker", 0, 0), (), "kind"))
        self.tells(thing((), (NAT, A)), (("maker", 0, 1), (), "kind"))
        self.tells(thing((), (NAT, SUCC)), (("maker", 0, 1), (), "kind"))

    def test_what_the_kernel_refuses(self):
        self.tells(thing((), (A,)), (("maker", 0, 0), (), "place"))
        self.tells(thing((), (), (), (NAT, every(NAT, at(2)))), (("maker", 2, 1), (1,), "place"))
        self.tells(thing((K,), (every(A, at(2)),)), (("maker", 0, 0), (1,), "place"))
        self.tells(thing((), (NAT, ("same", NAT, A, NAT))), (("maker", 0, 1), (2,), "unlike"))
        self.tells(thing((), (every(ZERO, ME),)), (("maker", 0, 0), (0,), "kind"))
        self.tells(thing((), (kind(5),), height=5), (("maker", 0, 0), (), "height"))
        self.tells(thing((), (every(app(ZERO, ZERO), ME),)), (("maker", 0, 0), (0, 0), "all"))

    def test_a_kind_that_is_higher_than_the_thing(self):
        for height in range(6):
            for other in range(5):
                told = None if other + 1 <= height else (("maker", 0, 0), (), "height")
                self.tells(thing((), (kind(other),), height=height), told)
        self.tells(thing((), (NAT, every(K, ME))), (("maker", 0, 1), (), "height"))
        self.tells(thing((), (NAT, every(K, ME)), height=1), None)
        # The thing itself is of its own height; so is what it is all of.
        self.tells(thing((), (), (ME, every(NAT, ME)), height=4), None)
        self.tells(thing((), (ME,), height=5), None)

    def test_maker_by_maker_argument_by_argument(self):
        bad, small, high = every(ME, ME), ZERO, K
        self.tells(thing((), (NAT, high, bad)), (("maker", 0, 1), (), "height"))
        self.tells(thing((), (NAT, bad, high)), (("maker", 0, 1), (0,), "growing"))
        self.tells(thing((), (small,), (bad,)), (("maker", 0, 0), (), "kind"))
        self.tells(thing((), (bad,), (small,)), (("maker", 0, 0), (0,), "growing"))
        self.tells(thing((), (), (NAT, small), (small,)), (("maker", 1, 1), (), "kind"))

    def test_growing_ahead_of_the_kind_and_the_height(self):
        self.tells(thing((), (every(ZERO, every(ME, ME)),)), (("maker", 0, 0), (1, 0), "growing"))
        self.tells(thing((), (every(K, every(ME, K)),)), (("maker", 0, 0), (1, 0), "growing"))

    def test_the_makers_are_not_there_yet(self):
        # As a row without makers the thing has no maker; but its own makers count as growing otherwise.
        self.tells(thing((), (), (("same", ME, ("maker", "me", 0), ("maker", "me", 0)),)),
                   (("maker", 1, 0), (0,), "growing"))

    def test_rooms_of_arguments(self):
        self.tells(thing((K, every(A, K)), (B, app(B, A), ("same", at(3), B, B))), None)
        self.tells(thing((K, every(A, K)), (B, app(B, A), ("same", C, B, B))), (("maker", 0, 2), (0,), "kind"))

    def test_an_argument_of_an_own_one(self):
        # What depends on an own argument may stand, as long as the thing itself doesn't.
        self.tells(thing((), (ME, NAT)), None)
        self.tells(thing((), (ME, ("same", ME, A, A))), (("maker", 0, 1), (0,), "growing"))


class MeansAndHolds(Faults):
    def test_sound(self):
        for row in (PLUS, IDS, TWICE, AXIOM, ("mean", "a", kind(1), K), ("mean", "a", K, every(NAT, NAT)), ("hold", "a", kind(4)),
                    ("mean", "a", app(fun(K, A), NAT), ZERO)):
            self.tells(row, None)

    def test_a_saying_without_a_kind(self):
        for row in (("mean", "a"), ("hold", "a")):
            for saying, spot, why in [(ZERO, (), "kind"), (SUCC, (), "kind"), (A, (), "place"), (kind(5), (), "height"),
                                      (every(NAT, B), (1,), "place"), (("name", "a"), (), "name"), (app(NAT, NAT), (0,), "all"),
                                      (fun(NAT, NAT), (), "kind"), (("maker", "nat", 2), (), "maker")]:
                self.tells((*row, saying) if row[0] == "hold" else (*row, saying, at(9)), (("saying",), spot, why))

    def test_a_term_that_the_kernel_refuses(self):
        self.tells(("mean", "a", NAT, A), (("term",), (), "place"))
        self.tells(("mean", "a", NAT, app(SUCC, NAT)), (("term",), (1,), "unlike"))
        self.tells(("mean", "a", NAT, app(SUCC, ("name", "a"))), (("term",), (1,), "name"))

    def test_a_term_of_another_saying(self):
        self.tells(("mean", "a", NAT, SUCC), (("term",), (), "unlike"))
        self.tells(("mean", "a", K, ZERO), (("term",), (), "unlike"))
        self.tells(("mean", "a", kind(2), K), (("term",), (), "unlike"))
        self.tells(("mean", "a", ("same", NAT, ZERO, number(1)), ("self", NAT, ZERO)), (("term",), (), "unlike"))

    def test_what_a_hold_says_need_not_be_settled(self):
        self.tells(("hold", "a", every(K, A)), None)


class Rooms(unittest.TestCase):
    def test_sound(self):
        for room in ([], (), [K], [K, A, B], [NAT, ("same", NAT, A, A)], [kind(4), A], [K] * 12, (K, A, every(B, K), app(A, B))):
            self.assertIsNone(unsound_room(GROUND, room))

    def test_the_first_that_has_no_kind(self):
        for room, told in [([A], (0, (), "place")), ([ZERO], (0, (), "kind")), ([K, B], (1, (), "place")),
                           ([K, A, A], (2, (), "kind")), ([NAT, ZERO, at(9)], (1, (), "kind")),
                           ([K] * 11 + [app(A, A)], (11, (0,), "all")), ([kind(5), at(7)], (0, (), "height")),
                           ((NAT, every(NAT, app(A, B))), (1, (1, 0), "all")), ([K, app(("name", "id"), NAT)], (1, (), "kind"))]:
            self.assertEqual(unsound_room(GROUND, room), told)
            self.assertIs(unsound_room(GROUND, room).__class__, tuple)

    def test_of_a_ground_without_rows(self):
        self.assertEqual(unsound_room(Ground(), [K, NAT]), (1, (), "name"))

    def test_refused(self):
        for thing in NO_GROUNDS:
            refused(self, NoGround, thing, unsound, thing)
            refused(self, NoGround, thing, unsound_room, thing, None)
            refused(self, NoGround, thing, unsound_room, thing, [])
        for thing in NO_ROOMS:
            refused(self, NoRoom, thing, unsound_room, GROUND, thing)
        refused(self, NoGround, "no ground", unsound_room, room=None, ground="no ground")


class AgainstThePlainReckoning(unittest.TestCase):
    def test_rows_of_which_a_part_is_put_otherwise(self):
        goods = Goods(45)
        seen = set()
        for _ in range(900):
            rows = list(ROWS)
            place = goods.chance.randrange(len(rows))
            rows[place] = self.spoiled_row(goods.chance, rows[place])
            ground = Ground(rows[:place + 1])
            told = unsound(ground)
            self.assertEqual(told, plain.unsound(Ground, ground), rows[place])
            seen.add(told and (told[1][0], told[3]))
        self.assertGreater(len(seen), 12)

    def spoiled_row(self, chance, row):
        spots = [2, 3] if row[0] == "mean" else [2] if row[0] == "hold" else [3] * len(row[3]) + [4] * sum(map(len, row[4]))
        if not spots:
            return row
        place = chance.choice(spots)
        if row[0] != "thing":
            return (*row[:place], spoiled(chance, row[place]), *row[place + 1:])
        others = [*LEAVES, ("thing", row[1]), ("maker", row[1], 0), ("eater", row[1], 1)]
        if place == 3:
            return (*row[:3], self.spoiled_one(chance, row[3], others), row[4])
        makers = list(row[4])
        maker = chance.choice([number for number in range(len(makers)) if makers[number]])
        makers[maker] = self.spoiled_one(chance, makers[maker], others)
        return (*row[:4], tuple(makers))

    def spoiled_one(self, chance, terms, others):
        place = chance.randrange(len(terms))
        return (*terms[:place], spoiled(chance, terms[place], others), *terms[place + 1:])


class NothingComesOfNothing(unittest.TestCase):
    """Point 44."""

    def test_no_small_term_settles_a_thing_without_makers(self):
        ground = Ground([NATS, NONE, ("thing", "void", 0, (K,), ()), IDS])
        void = app(("thing", "void"), NAT)
        leaves = [A, B, K, NAT, ZERO, SUCC, ("thing", "none"), ("eater", "none", 0), ("thing", "void"), ("eater", "void", 0),
                  ("name", "id"), void]
        terms = leaves + [(word, one, other) for word in ("all", "fun", "app", "self") for one, other in product(leaves, leaves)]
        good = [term for term in terms if self.saying(ground, [], term)]
        ends = [fun(one, term) for one in leaves for term in terms if self.saying(ground, [], one)]
        pairs = [app(one, other) for one in good for other in good]
        self.assertGreater(len(good), 40)
        for term in [*terms, *ends, *pairs]:
            self.assertNotIn(self.saying(ground, [], term), (("thing", "none"), void), term)
        # In a room that has one, or in a ground with a hold, there is one.
        self.assertEqual(self.saying(ground, [("thing", "none")], A), ("thing", "none"))
        self.assertEqual(self.saying(ground.with_row(("hold", "h", void)), [], ("name", "h")), void)

    def saying(self, ground, room, term):
        try:
            return saying_of(ground, room, term)
        except NoPaper:
            return None


if __name__ == "__main__":
    unittest.main()
