"""What several tests use: terms and rows, things that are none, and terms with names in the place of places."""

import random
from itertools import count
from kernelpapers.errors import PaperError, NoTerm, NoPaper, Open

A = ("at", 0)
B = ("at", 1)
C = ("at", 2)
K = ("kind", 0)
NAT = ("thing", "nat")
ZERO = ("maker", "nat", 0)
SUCC = ("maker", "nat", 1)


def at(number):
    return ("at", number)


def every(saying, term):
    return ("all", saying, term)


def fun(saying, term):
    return ("fun", saying, term)


def app(head, *some):
    for term in some:
        head = ("app", head, term)
    return head


# Each of the twelve words, and several within one another.
LEAVES = [
    ("at", 0), ("at", 7), ("at", 999), ("at", 10 ** 30 - 1), ("kind", 0), ("kind", 5),
    ("name", "a"), ("name", "abcdefgh"), ("name", "allx"), ("name", "at"), ("name", "kind"),
    ("thing", "nat"), ("maker", "nat", 0), ("maker", "nat", 10 ** 30 - 1), ("eater", "nat", 0), ("eater", "nat", 5),
]
TREES = [
    ("all", A, B), ("fun", K, A), ("app", A, B), ("same", NAT, ZERO, ZERO), ("self", NAT, ZERO), ("put", A, B, C),
    ("put", ("fun", NAT, ("same", NAT, A, B)), ("self", NAT, at(3)), ("app", SUCC, ("all", A, ("fun", A, at(2))))),
    ("same", ("all", K, A), ("fun", K, ("fun", A, A)), app(("eater", "nat", 2), A, B, ("name", "plus"))),
]
TERMS = LEAVES + TREES


def nested(kind, deep):
    """So many lists, tuples or dicts within one another."""
    thing = 0
    for _ in range(deep):
        thing = [thing] if kind == "list" else (thing,) if kind == "tuple" else {0: thing}
    return thing


class Stranger:
    """An object that says to be equal to everything, and has no truth."""

    def __eq__(self, other):
        return True

    def __bool__(self):
        raise AssertionError("nobody asked")

    __hash__ = None


# Things of every kind of point 5 that are no term, no name, no spot of a term, no row and no whole number from 0 on.
NOTHINGS = [
    None, True, False, -1, -10 ** 29, "A", "all", "a b", "", [], {}, [0], ["at", 0], {"at": 0}, {0: ("at", 0)},
    [("at", 0)], [["at", 0]], nested("list", 60), nested("dict", 60), [nested("tuple", 59)],
    NoTerm(None), PaperError("a text"), NoPaper((), "kind"), Open([0]),
]
# As terms they are wrong: so is each tuple here.
NO_TERMS = NOTHINGS + [
    (), 0, 1, 10 ** 29, "at", "nat", nested("tuple", 60), (0,), (0, 0), ("at",), ("kind",), ("name",), ("thing",), (None, 0),
    ([], 0), ({}, 0), (("at",), 0), (True, A), ("At", 0), ("at ", 0), ("", 0), ("nat", 0), ("mean", "a"), ("hold", "a", K),
    ("at", -1), ("at", True), ("at", False), ("at", None), ("at", "0"), ("at", [0]), ("at", 0, 0), ("at", A), ("at", (0,)),
    ("kind", -1), ("kind", 6), ("kind", True), ("kind", "0"), ("kind", 0, 0), ("kind", K), ("kind", {}),
    ("name", ""), ("name", "abcdefghi"), ("name", "all"), ("name", "A"), ("name", 3), ("name", "a", "b"), ("name", ["a"]),
    ("thing", "self"), ("thing", None), ("thing", "nat", 0),
    ("maker", "nat"), ("maker", "nat", -1), ("maker", "nat", True), ("maker", 0, "nat"), ("maker", "nat", 0, 0),
    ("maker", "same", 0), ("maker", "nat", None), ("eater", "nat"), ("eater", "nat", 6), ("eater", "nat", -1),
    ("eater", "nat", False), ("eater", "put", 0), ("eater", "nat", 0, 0), ("eater", "nat", [0]), ("eater", 0, 0),
    ("all",), ("all", A), ("all", A, A, A), ("all", A, None), ("all", A, [A]), ("all", "x", A, A), ("fun", A), ("fun", 0, 0),
    ("fun", A, A, A), ("fun", list(A), A), ("fun", A, ("at", True)), ("app", A), ("app", A, A, A), ("app", A, "a"), ("app", (), A),
    ("same", A, A), ("same", A, A, A, A), ("same", A, A, 1), ("self", A), ("self", A, A, A), ("self", {}, A),
    ("put", A, A), ("put", A, A, A, A), ("put", A, A, ("put", A, A)), ("all", A, ("fun", A, ("app", A, ("kind", 6)))),
    (["at"], 0), ["all", A, A], [A, A], (A,), (A, A),
]
# As grounds they are wrong, what a ground is made of too.
NO_GROUNDS = NOTHINGS + [0, 1, "nat", (), ("thing", "nat", 0, (), ()), [("thing", "nat", 0, (), ())], ("at", 0)]
# As rooms they are wrong: what is no list or tuple, what has other things than terms, and what has thirteen.
NO_ROOMS = [thing for thing in NOTHINGS if thing not in ([], [("at", 0)])]
NO_ROOMS += [0, "kind", {}, ("kind", 0), [("kind", 0), None], (("at", 0), ["at", 0]), [[("kind", 0)]], [("kind", 6)], [()],
             [("kind", 0)] * 13, (("kind", 0),) * 13, [("kind", 0)] * 100]
NO_WHOLES = NOTHINGS + ["0", (), (0,), ("at", 0), nested("tuple", 60)]


def refused(case, error, thing, deed, *given, **more):
    """The deed is refused with just this error, whose field is the very thing."""
    with case.assertRaises(error) as caught:
        deed(*given, **more)
    case.assertIs(caught.exception.__class__, error)
    case.assertIs(caught.exception.found, thing)
    case.assertIsInstance(caught.exception, PaperError)
    case.assertIsInstance(caught.exception, ValueError)


def refused_as(case, family, error, fields, deed, *given, **more):
    """The deed is refused with just this error of this family, whose fields are equal to these."""
    with case.assertRaises(error) as caught:
        deed(*given, **more)
    case.assertIs(caught.exception.__class__, error)
    case.assertEqual(error.__bases__, (family,))
    for field, thing in fields.items():
        told = getattr(caught.exception, field)
        case.assertEqual(told, thing)
        case.assertIs(told.__class__, thing.__class__)


# Rows of the three sorts.
NATS = ("thing", "nat", 0, (), ((), (NAT,)))
NONE = ("thing", "none", 0, (), ())
LIST = ("thing", "list", 0, (K,), ((), (A, ("app", ("thing", "list"), B))))
TREE = ("thing", "tree", 1, (K, every(A, K)), ((B, every(app(B, A), app(("thing", "tree"), at(3), at(2)))),))
PLUS = ("mean", "plus", every(NAT, every(NAT, NAT)), fun(NAT, fun(NAT, B)))
AXIOM = ("hold", "axiom", every(("kind", 0), A))
ROWS = [NATS, NONE, LIST, TREE, PLUS, AXIOM]


# Terms with names: ("var", x), and binders that tell their own, ("all", x, a, b) and ("fun", x, a, b).

def by_places(named, around=()):
    """The term of a term with names, in a room of these names, the last one the nearest."""
    word = named[0]
    if word == "var":
        return ("at", around[::-1].index(named[1]))
    if word in ("all", "fun"):
        return (word, by_places(named[2], around), by_places(named[3], (*around, named[1])))
    return tuple(by_places(thing, around) if isinstance(thing, tuple) else thing for thing in named)


def put_for(named, name, other):
    """The other one in the place of a name. (No two binders share a name, so nothing is caught.)"""
    if named == ("var", name):
        return other
    return tuple(put_for(thing, name, other) if isinstance(thing, tuple) else thing for thing in named)


def named_all(binders, named):
    for name, saying in reversed(binders):
        named = ("all", name, saying, named)
    return named


class Maker:
    """Makes terms with names, by chance, but the same ones each time."""

    def __init__(self, seed):
        self.chance = random.Random(seed)
        self.numbers = count()

    def name(self):
        return f"x{next(self.numbers)}"

    def leaf(self, names):
        if names and self.chance.random() < 0.75:
            return ("var", self.chance.choice(names))
        return self.chance.choice([K, ("kind", 3), NAT, SUCC, ("name", "plus"), ("eater", "nat", 1)])

    def term(self, names, deep=4):
        word = self.chance.choice(["all", "fun", "app", "app", "same", "self", "put", "leaf"])
        if deep == 0 or word == "leaf":
            return self.leaf(names)
        if word in ("all", "fun"):
            name = self.name()
            return (word, name, self.term(names, deep - 1), self.term([*names, name], deep - 1))
        many = {"app": 2, "self": 2, "same": 3, "put": 3}[word]
        return (word, *[self.term(names, deep - 1) for _ in range(many)])
