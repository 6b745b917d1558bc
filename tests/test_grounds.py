"""Point 22: what a ground is made of, and what it tells."""

import unittest
from copy import deepcopy
from kernelpapers.errors import Doubled, NoGround, NoRow, NoThing, NotThere
from kernelpapers.grounds import Ground
from samples import (A, AXIOM, K, LIST, NAT, NATS, NONE, NOTHINGS, NO_TERMS, PLUS, ROWS, SUCC, TERMS, TREE, Stranger, every,
                     refused)

NAMES = ["nat", "none", "list", "tree", "plus", "axiom"]
NO_ROWS = [thing for thing in NO_TERMS if thing != ("hold", "a", K)] + TERMS + [("thing", "a", 0, (), []), ("hold", "all", K), ("mean", "a", K), ["hold", "a", K]]


NO_NAMES = [thing for thing in NO_TERMS if thing != "nat"] + ["na", "natt", "NAT", "at", "", Ground(), Stranger()]


def holds(many):
    return [("hold", "h" + chr(97 + number), K) for number in range(many)]


class Made(unittest.TestCase):
    def test_of_no_rows(self):
        for ground in (Ground(), Ground(None), Ground([]), Ground(()), Ground(rows=None)):
            self.assertEqual(ground.rows(), [])
            self.assertEqual(ground.names(), [])
            self.assertEqual(len(ground), 0)
            self.assertEqual(ground, Ground())

    def test_of_a_list_and_of_a_tuple(self):
        for ground in (Ground(ROWS), Ground(tuple(ROWS)), Ground(rows=ROWS)):
            self.assertEqual(ground.rows(), ROWS)
            self.assertEqual(ground.names(), NAMES)
            self.assertEqual(len(ground), 6)

    def test_of_24_rows_and_of_more(self):
        self.assertEqual(len(Ground(holds(24))), 24)
        for rows in (holds(25), tuple(holds(25)), [None] * 25, [NATS] * 100):
            refused(self, NoGround, rows, Ground, rows)

    def test_of_what_is_no_list_or_tuple(self):
        for thing in [*NOTHINGS, 0, 1, "nat", {"rows": []}, Ground(), Stranger()]:
            if thing is not None and not isinstance(thing, (list, tuple)):
                refused(self, NoGround, thing, Ground, thing)
                refused(self, NoGround, thing, Ground, rows=thing)

    def test_of_what_is_no_row(self):
        for thing in NO_ROWS:
            refused(self, NoRow, thing, Ground, [thing])
            refused(self, NoRow, thing, Ground, (NATS, thing, NATS, None))
        row = "hold"
        refused(self, NoRow, row, Ground, (row, "a", K))

    def test_of_a_name_twice(self):
        for row in [("thing", "nat", 1, (), ()), ("mean", "nat", K, NAT), ("hold", "nat", K), NATS]:
            refused(self, Doubled, row[1], Ground, [LIST, NATS, row])

    def test_row_by_row(self):
        bad = ["hold", "a", K]
        refused(self, NoRow, bad, Ground, [NATS, bad, NATS])
        refused(self, Doubled, "nat", Ground, [NATS, NATS, bad])
        refused(self, NoRow, bad, Ground, [bad, NATS, NATS])

    def test_soundness_is_not_asked(self):
        strange = [("mean", "a", ("at", 7), ("name", "a")), ("thing", "b", 0, (("at", 9),), ((every(("thing", "b"), K),),))]
        self.assertEqual(Ground(strange).rows(), strange)

    def test_it_keeps_a_copy(self):
        rows = [NATS, LIST]
        ground = Ground(rows)
        rows.append(NONE)
        rows[0] = TREE
        self.assertEqual(ground.rows(), [NATS, LIST])
        self.assertEqual(ground.names(), ["nat", "list"])
        self.assertFalse(ground.has("none"))


class Told(unittest.TestCase):
    ground = Ground(ROWS)

    def test_lists_are_the_askers_own(self):
        for ask in (self.ground.rows, self.ground.names):
            told = ask()
            self.assertIs(told.__class__, list)
            ahead = list(told)
            told.reverse()
            told.append("spoiled")
            self.assertEqual(ask(), ahead)
        self.assertEqual(self.ground, Ground(ROWS))

    def test_has(self):
        for name in NAMES:
            self.assertIs(self.ground.has(name), True)
            self.assertIs(Ground().has(name), False)
        for thing in [*NO_NAMES, *TERMS, *ROWS]:
            self.assertIs(self.ground.has(thing), False, thing)
        self.assertIs(self.ground.has(thing="nat"), True)

    def test_told(self):
        for row in ROWS:
            self.assertEqual(self.ground.told(row[1]), row)
            self.assertEqual(self.ground.told(name=row[1]), row)

    def test_told_of_what_is_no_name_there(self):
        for thing in [*NO_NAMES, *TERMS, *ROWS]:
            with self.assertRaises(NoThing) as caught:
                self.ground.told(thing)
            self.assertIs(caught.exception.__class__, NoThing)
            self.assertIs(caught.exception.found, thing)
            self.assertIsInstance(caught.exception, NotThere)
            self.assertIsInstance(caught.exception, KeyError)

    def test_len_and_truth(self):
        self.assertEqual(len(self.ground), 6)
        self.assertFalse(Ground())
        self.assertTrue(self.ground)


class WithRow(unittest.TestCase):
    def test_another_ground(self):
        ground = Ground([NATS])
        wider = ground.with_row(LIST)
        self.assertEqual(wider.rows(), [NATS, LIST])
        self.assertEqual(wider, Ground([NATS, LIST]))
        self.assertIs(wider.__class__, Ground)
        self.assertEqual(wider.told("list"), LIST)
        self.assertEqual(ground.rows(), [NATS])
        self.assertFalse(ground.has("list"))
        self.assertEqual(ground.with_row(row=PLUS).names(), ["nat", "plus"])

    def test_of_what_is_no_row(self):
        for ground in (Ground(), Ground([NATS]), Ground(holds(24))):
            for thing in NO_ROWS:
                refused(self, NoRow, thing, ground.with_row, thing)

    def test_of_a_name_twice(self):
        refused(self, Doubled, "nat", Ground([LIST, NATS]).with_row, ("hold", "nat", K))
        refused(self, Doubled, "hx", Ground(holds(24)).with_row, ("hold", "hx", K))

    def test_a_row_too_many(self):
        full = Ground(holds(23)).with_row(NATS)
        self.assertEqual(len(full), 24)
        with self.assertRaises(NoGround) as caught:
            full.with_row(LIST)
        self.assertEqual(caught.exception.found, [*holds(23), NATS, LIST])
        self.assertIs(caught.exception.found.__class__, list)
        caught.exception.found.clear()
        self.assertEqual(full.rows(), [*holds(23), NATS])


class Equal(unittest.TestCase):
    def test_where_the_rows_are_in_order(self):
        self.assertEqual(Ground(ROWS), Ground(deepcopy(ROWS)))
        self.assertFalse(Ground(ROWS) != Ground(tuple(ROWS)))
        self.assertNotEqual(Ground([NATS, LIST]), Ground([LIST, NATS]))
        self.assertNotEqual(Ground([NATS]), Ground([NATS, LIST]))
        self.assertNotEqual(Ground([NATS]), Ground([("thing", "nat", 0, (), ())]))
        self.assertNotEqual(Ground([AXIOM]), Ground([("hold", "axiom", A)]))
        self.assertEqual(Ground([NATS]).with_row(LIST), Ground([NATS, LIST]))

    def test_to_nothing_else(self):
        for thing in [*NO_TERMS, *TERMS, ROWS, tuple(ROWS), SUCC, [], ()]:
            for ground in (Ground(ROWS), Ground()):
                self.assertIs(ground == thing, False)
                self.assertIs(ground != thing, True)
        self.assertIs(Ground().__eq__(Stranger()), False)


if __name__ == "__main__":
    unittest.main()
