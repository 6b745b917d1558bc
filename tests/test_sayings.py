"""Point 24: the sayings of a thing, its makers and its eater."""

import unittest
from kernelpapers.errors import NoNumber, NoRow
from kernelpapers.terms import free
from kernelpapers.things import eater_saying, maker_saying, thing_saying, ungrown
from samples import (A, AXIOM, B, C, K, LIST, NAT, NATS, NONE, NO_TERMS, NO_WHOLES, PLUS, ROWS, SUCC, TREE, ZERO, Maker, app,
                     at, by_places, every, named_all, refused)

LISTED = ("thing", "list")
TREED = ("thing", "tree")
NIL = ("maker", "list", 0)
MORE = ("maker", "list", 1)


class OfThing(unittest.TestCase):
    def test_by_hand(self):
        self.assertEqual(thing_saying(NATS), ("kind", 0))
        self.assertEqual(thing_saying(LIST), every(K, ("kind", 0)))
        self.assertEqual(thing_saying(TREE), every(K, every(every(A, K), ("kind", 1))))
        self.assertEqual(thing_saying(("thing", "a", 5, (K, A, B), ())), every(K, every(A, every(B, ("kind", 5)))))

    def test_no_row_of_a_thing(self):
        for thing in [*NO_TERMS, PLUS, AXIOM, NAT]:
            refused(self, NoRow, thing, thing_saying, thing)

    def test_by_name(self):
        self.assertEqual(thing_saying(row=NONE), ("kind", 0))


class OfMaker(unittest.TestCase):
    def test_by_hand(self):
        self.assertEqual(maker_saying(NATS, 0), NAT)
        self.assertEqual(maker_saying(NATS, 1), every(NAT, NAT))
        self.assertEqual(maker_saying(LIST, 0), every(K, app(LISTED, A)))
        self.assertEqual(maker_saying(LIST, 1), every(K, every(A, every(app(LISTED, B), app(LISTED, C)))))
        own = every(app(B, A), app(TREED, at(3), at(2)))
        told = every(K, every(every(A, K), every(B, every(own, app(TREED, at(3), C)))))
        self.assertEqual(maker_saying(TREE, 0), told)

    def test_all_at_their_most(self):
        row = ("thing", "a", 0, (K, A, B), ((), (), (), (), (A, B, C, at(3))))
        head = app(("thing", "a"), at(6), at(5), at(4))
        told = every(K, every(A, every(B, every(A, every(B, every(C, every(at(3), head)))))))
        self.assertEqual(maker_saying(row, 4), told)

    def test_no_row_of_a_thing_goes_first(self):
        for thing in [*NO_TERMS, PLUS, AXIOM, NAT]:
            refused(self, NoRow, thing, maker_saying, thing, 0)
            refused(self, NoRow, thing, maker_saying, thing, [7])

    def test_no_makers_number(self):
        for known in ROWS[:4]:
            for number in [*NO_WHOLES, len(known[4]), 99, 10 ** 29]:
                refused(self, NoNumber, number, maker_saying, known, number)

    def test_by_names(self):
        self.assertEqual(maker_saying(maker=1, row=NATS), every(NAT, NAT))


class OfEater(unittest.TestCase):
    def test_without_makers(self):
        for height in range(6):
            told = every(every(("thing", "none"), ("kind", height)), every(("thing", "none"), app(B, A)))
            self.assertEqual(eater_saying(NONE, height), told)

    def test_numbers(self):
        zero = app(A, ZERO)
        more = every(NAT, every(app(C, A), app(at(3), app(SUCC, B))))
        told = every(every(NAT, ("kind", 2)), every(zero, every(more, every(NAT, app(at(3), A)))))
        self.assertEqual(eater_saying(NATS, 2), told)

    def test_lists(self):
        # Places behind a binder are written for the room: a (the bound), P, the step of nil, the step of more.
        nil = app(A, app(NIL, B))
        # x : a; r : list a; P r; then P (more a x r). In this room a is 5, P 4, x 2, r 1.
        more = every(C, every(app(LISTED, at(3)), every(app(at(3), A), app(at(4), app(MORE, at(5), C, B)))))
        told = every(K, every(every(app(LISTED, A), ("kind", 0)),
                              every(nil, every(more, every(app(LISTED, at(3)), app(at(3), A))))))
        self.assertEqual(eater_saying(LIST, 0), told)

    def test_sayings_between(self):
        # The bounds are k (a kind) and f (all of k of a kind); then P.
        # x : k; g : all of (f x) of (tree k f); all y : f x of P (g y); then P (node k f x g).
        # x's saying is k, the place 2 behind P. In g's saying f is 2 and k 3 behind x, 3 and 4 behind y.
        own = every(app(C, A), app(TREED, at(4), at(3)))
        # Behind g: x is 1, P 2, f 3; behind y, P is 3, g 1, y 0.
        holds = every(app(at(3), B), app(at(3), app(B, A)))
        # Behind that: g is 1, x 2, P 3, f 4, k 5.
        end = app(at(3), app(("maker", "tree", 0), at(5), at(4), C, B))
        step = every(C, every(own, every(holds, end)))
        told = every(K, every(every(A, K), every(every(app(TREED, B, A), ("kind", 5)),
                                                 every(step, every(app(TREED, at(3), C), app(C, A))))))
        self.assertEqual(eater_saying(TREE, 5), told)

    def test_what_is_no_own_argument_has_no_saying(self):
        me = ("thing", "me")
        row = ("thing", "me", 0, (), ((every(me, me), me),))
        # Behind P: the first argument as it stands, the second one, and what holds of the second one alone.
        step = every(every(me, me), every(me, every(app(C, A), app(at(3), app(("maker", "me", 0), C, B)))))
        told = every(every(me, ("kind", 1)), every(step, every(me, app(C, A))))
        self.assertEqual(eater_saying(row, 1), told)

    def test_no_row_of_a_thing_goes_first(self):
        for thing in [*NO_TERMS, PLUS, AXIOM, NAT]:
            refused(self, NoRow, thing, eater_saying, thing, 0)
            refused(self, NoRow, thing, eater_saying, thing, [7])

    def test_no_height(self):
        for known in ROWS[:4]:
            for number in [*NO_WHOLES, 6, 99, 10 ** 29]:
                refused(self, NoNumber, number, eater_saying, known, number)

    def test_by_names(self):
        self.assertEqual(eater_saying(height=0, row=NONE), eater_saying(NONE, 0))


class NamedThing:
    """A thing whose bounds and arguments have names, made by chance."""

    def __init__(self, maker):
        self.maker = maker
        self.chance = maker.chance
        self.bounds = []
        for _ in range(self.chance.randrange(4)):
            self.bounds.append((maker.name(), maker.term([name for name, _ in self.bounds], 2)))
        # Each argument is (name, sayings between or None, saying).
        self.makers = [self.arguments() for _ in range(self.chance.randrange(6))]

    def names(self):
        return [name for name, _ in self.bounds]

    def given(self, head):
        return app(head, *[("var", name) for name in self.names()])

    def arguments(self):
        told = []
        for _ in range(self.chance.randrange(5)):
            names = [*self.names(), *[name for name, _, _ in told]]
            if self.chance.random() < 0.6:
                between = []
                for _ in range(self.chance.randrange(3)):
                    name = self.maker.name()
                    between.append((name, self.maker.term([*names, *[name for name, _ in between]], 2)))
                told.append((self.maker.name(), between, named_all(between, self.given(("thing", "me")))))
            else:
                told.append((self.maker.name(), None, self.maker.term(names, 2)))
        return told

    def row(self, height):
        bounds = tuple(by_places(saying, self.names()[:at]) for at, (_, saying) in enumerate(self.bounds))
        makers = tuple(self.sayings(arguments) for arguments in self.makers)
        return ("thing", "me", height, bounds, makers)

    def sayings(self, arguments):
        names = [name for name, _, _ in arguments]
        return tuple(by_places(saying, (*self.names(), *names[:at])) for at, (_, _, saying) in enumerate(arguments))

    def maker_saying(self, number):
        binders = [(name, saying) for name, _, saying in self.makers[number]]
        return named_all([*self.bounds, *binders], self.given(("thing", "me")))

    def step(self, number):
        arguments = self.makers[number]
        binders = [(name, saying) for name, _, saying in arguments]
        for name, between, _ in arguments:
            if between is not None:
                own = app(("var", name), *[("var", given) for given, _ in between])
                binders.append((f"holds{name}", named_all(between, app(("var", "told"), own))))
        made = app(self.given(("maker", "me", number)), *[("var", name) for name, _, _ in arguments])
        return named_all(binders, app(("var", "told"), made))

    def eater_saying(self, height):
        thing = self.given(("thing", "me"))
        told = [("told", ("all", "any", thing, ("kind", height)))]
        steps = [(f"step{number}", self.step(number)) for number in range(len(self.makers))]
        return named_all([*self.bounds, *told, *steps, ("one", thing)], app(("var", "told"), ("var", "one")))


class AgainstNames(unittest.TestCase):
    def test_many_things(self):
        maker = Maker(24)
        for number in range(300):
            thing = NamedThing(maker)
            height = number % 6
            row = thing.row(height)
            self.assertIsNone(ungrown(row))
            self.assertEqual(thing_saying(row), by_places(named_all(thing.bounds, ("kind", height))))
            for many in range(len(thing.makers)):
                self.assertEqual(maker_saying(row, many), by_places(thing.maker_saying(many)))
            told = eater_saying(row, 5 - height)
            self.assertEqual(told, by_places(thing.eater_saying(5 - height)))
            self.assertEqual(free(told), [])


if __name__ == "__main__":
    unittest.main()
