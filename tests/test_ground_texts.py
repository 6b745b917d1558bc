"""Point 64: grounds as texts."""

import random
import unittest
from kernelpapers.errors import Doubled, NoFit, NoGround, NoLine, NoRow, NoText, PaperError
from kernelpapers.grounds import Ground
from kernelpapers.texts import read, read_ground, show_ground
from goods import GROUND, ROWS, WIDE
from plain_texts import text_with_blanks
from samples import (A, AXIOM, B, C, K, LIST, NAT, NATS, NO_GROUNDS, NONE, PLUS, TREE, ZERO, Stranger, app, at, every, fun, refused,
                     refused_as)
from test_read import NO_TEXTS

NAT_LINES = "thing nat 0\nmaker\nmaker\narg nat"
LIST_LINES = "thing list 0\nbound *0\nmaker\nmaker\narg x0\narg list x0"
TREE_LINES = "thing tree 1\nbound *0\nbound x0 -> *0\nmaker\narg x0\narg x1 x2 -> tree x0 x1"
PLUS_LINE = "mean plus : nat -> nat -> nat = fun x0 : nat . fun x1 : nat . x0"
AXIOM_LINE = "hold axiom : all x0 : *0 . x0"


def no_line(case, number, text):
    refused_as(case, PaperError, NoLine, {"found": number}, read_ground, text)


class Shown(unittest.TestCase):
    def tells(self, rows, text):
        self.assertEqual(show_ground(Ground(rows)), text)
        self.assertEqual(read_ground(text), Ground(rows))

    def test_no_rows(self):
        self.tells([], "")

    def test_things(self):
        self.tells([NONE], "thing none 0")
        self.tells([NATS], NAT_LINES)
        self.tells([LIST], LIST_LINES)
        self.tells([TREE], TREE_LINES)
        self.tells([("thing", "a", 5, (("kind", 4),), ((),) * 5)], "thing a 5\nbound *4" + "\nmaker" * 5)
        self.tells([("thing", "a", 0, (K, A, B), ((C, C, C, A),))],
                   "thing a 0\nbound *0\nbound x0\nbound x0\nmaker\narg x0\narg x1\narg x2\narg x5")
        self.tells([WIDE], "thing wide 0\nbound *0\nbound x0 -> *0\nmaker\nmaker\narg x0\n"
                   "arg all x3 : x1 x2 . same (x1 x2) x3 x3 -> wide x0 x1\narg x0 -> wide x0 x1\nmaker\narg nat\narg wide x0 x1")

    def test_meanings_and_holds(self):
        self.tells([PLUS], PLUS_LINE)
        self.tells([AXIOM], AXIOM_LINE)
        self.tells([("mean", "a", ("name", "b"), ("name", "a"))], "mean a : @b = @a")
        self.tells([("hold", "mean", ("thing", "mean"))], "hold mean : mean")

    def test_several(self):
        self.tells([NATS, PLUS, NONE, AXIOM, TREE], "\n".join([NAT_LINES, PLUS_LINE, "thing none 0", AXIOM_LINE, TREE_LINES]))
        self.tells([("thing", "bound", 0, (), ()), ("thing", "maker", 0, (K,), ()), ("hold", "arg", ("thing", "bound"))],
                   "thing bound 0\nthing maker 0\nbound *0\nhold arg : bound")

    def test_grounds_read_back(self):
        self.assertEqual(read_ground(show_ground(GROUND)), GROUND)
        for many in range(len(ROWS)):
            self.tells(ROWS[many:], show_ground(Ground(ROWS[many:])))
        names = ["m" + chr(97 + at) for at in range(24)]
        self.tells([("hold", name, K) for name in names], "\n".join([f"hold {name} : *0" for name in names]))

    def test_by_name(self):
        self.assertEqual(show_ground(ground=Ground([NATS])), NAT_LINES)
        self.assertEqual(read_ground(text=NAT_LINES), Ground([NATS]))

    def test_no_ground_of_any_kind(self):
        for thing in [*NO_GROUNDS, Stranger(), NAT_LINES]:
            refused(self, NoGround, thing, show_ground, thing)

    def test_the_first_term_that_has_a_free_place(self):
        bound, argument, one, other = app(A, at(1)), app(A, at(3)), app(A, at(0)), app(A, at(5))
        things = ("thing", "a", 0, (K, bound), ((), (K, argument)))
        refused(self, NoFit, bound, show_ground, Ground([("thing", "a", 0, (K, bound), ((argument,),))]))
        refused(self, NoFit, argument, show_ground, Ground([("thing", "a", 0, (K, A), ((A, B, C), (K, argument)))]))
        refused(self, NoFit, bound, show_ground, Ground([NATS, things, ("hold", "b", one)]))
        refused(self, NoFit, one, show_ground, Ground([NATS, ("mean", "b", one, other), ("hold", "c", other)]))
        refused(self, NoFit, other, show_ground, Ground([NATS, ("mean", "b", K, other), ("hold", "c", one)]))
        refused(self, NoFit, one, show_ground, Ground([("hold", "c", one), things]))
        self.assertEqual(show_ground(Ground([("thing", "a", 0, (K, A), ((K, app(A, at(2))),))])),
                         "thing a 0\nbound *0\nbound x0\nmaker\narg *0\narg x2 x0")


class Read(unittest.TestCase):
    def test_blanks_wherever_some_may_stand(self):
        self.assertEqual(read_ground("  thing   nat 0 \n maker\n  maker  \narg    (nat)"), Ground([NATS]))
        self.assertEqual(read_ground("mean  a :(nat)= (x)"), Ground([("mean", "a", NAT, ("thing", "x"))]))
        chance = random.Random(64)
        for rows in [ROWS, [LIST, WIDE, PLUS]]:
            lines = show_ground(Ground(rows)).split("\n")
            self.assertEqual(read_ground("\n".join([text_with_blanks(chance, line) for line in lines])), Ground(rows))

    def test_terms_are_read_as_texts_are(self):
        self.assertEqual(read_ground("hold a : fun x7 : *0 . x7"), Ground([("hold", "a", fun(K, A))]))
        self.assertEqual(read_ground("thing a 0\nbound ((*0))\nbound all x9 : x0 . x9"),
                         Ground([("thing", "a", 0, (K, every(A, A)), ())]))

    def test_no_text_of_any_kind(self):
        for thing in [*NO_TEXTS, Stranger(), b""]:
            refused(self, NoText, thing, read_ground, thing)

    def test_rows_that_are_none_of_these(self):
        for line in ["", " ", "   ", "nat", "things nat 0", "thing", "thing nat", "thing nat 0 0", "thing nat 6", "thing nat 00", "thing nat -1",
                     "thing nat x", "thing Nat 0", "thing all 0", "thing 0 nat", "(thing nat 0)", "thing nat (0)", "thing nat 0 maker",
                     "mean", "mean a", "mean a :", "mean a : nat", "mean a : nat nat", "mean a = nat : nat", "mean a nat = nat",
                     "mean a : = nat", "mean a : nat =", "mean a : nat = nat = nat", "mean a : nat == nat", "mean A : nat = nat",
                     "mean put : nat = nat", "mean a : x0 = nat", "mean a : nat = x0", "mean a : nat = nat )", "mean a : (nat = nat)",
                     "mean : nat = nat", "hold", "hold a", "hold a :", "hold a nat", "hold a : nat = nat", "hold a : x0", "hold a : nat )",
                     "hold a: nat", "hold a :nat", "hold a nat nat", "hold a = nat", "mean a nat nat = nat",
                     "mean a = nat = nat", "means a : nat = nat", "holds a : nat", "name a : nat", "Mean a : nat = nat", "hold fun : nat", "hold : nat", "Thing nat 0", "bound", "maker", "arg", "hold a : nat nat#00"]:
            # (The text without signs has no rows.)
            no_line(self, 0, line + "\nthing nat 0")
            no_line(self, 1, AXIOM_LINE + "\n" + line)
            if line != "maker":
                no_line(self, 4, NAT_LINES + "\n" + line + "\nthing")
            no_line(self, 2, AXIOM_LINE + "\n" + PLUS_LINE + "\n" + line + "\n" + LIST_LINES)

    def test_line_feeds(self):
        no_line(self, 0, "\n")
        no_line(self, 0, "\n" + NAT_LINES)
        no_line(self, 4, NAT_LINES + "\n")
        no_line(self, 4, NAT_LINES + "\n\n" + AXIOM_LINE)
        no_line(self, 1, AXIOM_LINE + "\n")

    def test_where_a_row_can_not_stand(self):
        no_line(self, 0, "bound *0")
        no_line(self, 0, "maker")
        no_line(self, 0, "arg *0")
        no_line(self, 1, AXIOM_LINE + "\nbound *0")
        no_line(self, 1, AXIOM_LINE + "\nmaker")
        no_line(self, 1, PLUS_LINE + "\narg *0")
        no_line(self, 1, PLUS_LINE + "\nmaker")
        no_line(self, 2, "thing a 0\nmaker\nbound *0")
        no_line(self, 3, "thing a 0\nmaker\narg *0\nbound *0")
        no_line(self, 1, "thing a 0\narg *0")
        no_line(self, 2, "thing a 0\nbound *0\narg *0")
        no_line(self, 2, "thing a 0\n" + AXIOM_LINE + "\nmaker")
        no_line(self, 3, "thing a 0\nmaker\n" + AXIOM_LINE + "\narg *0")
        self.assertEqual(read_ground("thing a 0\nbound *0\nmaker\narg *0\nmaker\nmaker"),
                         Ground([("thing", "a", 0, (K,), ((K,), (), ()))]))

    def test_rows_of_a_thing_that_are_none_of_these(self):
        for line in ["maker maker", "maker *0", "maker 0", "maker:"]:
            no_line(self, 1, "thing a 0\n" + line)
        for line in ["bound", "bound )", "bound x0", "bound *0 = *0", "bound *6", "bound : *0", "bound *0 ."]:
            no_line(self, 1, "thing a 0\n" + line)
        for line in ["arg", "arg (", "arg x1", "arg : *0", "arg *0 *0 )"]:
            no_line(self, 3, "thing a 0\nbound *0\nmaker\n" + line)

    def test_the_rooms_of_bounds_and_arguments(self):
        no_line(self, 2, "thing a 0\nbound *0\nbound x1")
        no_line(self, 3, "thing a 0\nbound *0\nmaker\narg x1")
        no_line(self, 4, "thing a 0\nbound *0\nmaker\narg *0\narg x2")
        no_line(self, 5, "thing a 0\nbound *0\nmaker\narg *0\nmaker\narg x1")
        no_line(self, 2, "thing a 0\nbound *0\nhold a : x0")
        self.assertEqual(read_ground("thing a 0\nbound *0\nmaker\narg *0\narg x1\nmaker\narg x0"),
                         Ground([("thing", "a", 0, (K,), ((K, A), (A,)))]))

    def test_what_a_ground_refuses_goes_behind(self):
        refused_as(self, PaperError, Doubled, {"found": "a"}, read_ground, "hold a : *0\nthing a 0")
        no_line(self, 2, "hold a : *0\nthing a 0\nhold")
        four = ("thing", "a", 0, (K,) * 4, ())
        refused_as(self, PaperError, NoRow, {"found": four}, read_ground, "thing a 0" + "\nbound *0" * 4)
        no_line(self, 6, "thing a 0" + "\nbound *0" * 5 + "\nbound")
        six = ("thing", "a", 0, (), ((),) * 6)
        refused_as(self, PaperError, NoRow, {"found": six}, read_ground, NAT_LINES + "\nthing a 0" + "\nmaker" * 6)
        five = ("thing", "a", 0, (K,), ((), (A, B, C, at(3), at(4))))
        refused_as(self, PaperError, NoRow, {"found": five}, read_ground,
                   "thing a 0\nbound *0\nmaker\nmaker" + "\narg x0" * 5 + "\nhold a : *0")
        names = ["m" + chr(97 + at) for at in range(25)]
        rows = [("hold", name, K) for name in names]
        refused_as(self, PaperError, NoGround, {"found": rows}, read_ground, "\n".join([f"hold {name} : *0" for name in names]))
        self.assertEqual(len(read_ground("\n".join([f"hold {name} : *0" for name in names[:24]]))), 24)
        # The whole is looked at ahead of its rows.
        with self.assertRaises(NoGround):
            read_ground("\n".join(["hold a : *0"] * 25))

    def test_a_ground_need_not_be_sound(self):
        self.assertEqual(read_ground("hold a : @b"), Ground([("hold", "a", ("name", "b"))]))
        self.assertEqual(read("x0", 1), A)
        self.assertEqual(ZERO, read("nat#0"))


if __name__ == "__main__":
    unittest.main()
