"""Grounds that are sound, and good terms made by chance (but the same ones each time) in them."""

import random
from kernelpapers.grounds import Ground
from plain import alike, apply, raise_by, saying, worked
from samples import A, B, C, K, LIST, NATS, NAT, NONE, SUCC, TREE, ZERO, app, at, by_places, every, fun

BOOL = ("thing", "bool", 0, (), ((), ()))
FLAG = ("thing", "bool")
YES, NO = ("maker", "bool", 0), ("maker", "bool", 1)
LISTED = ("thing", "list")
NIL, MORE = ("maker", "list", 0), ("maker", "list", 1)
TREED = ("thing", "tree")
NODE = ("maker", "tree", 0)
NOUGHT = ("thing", "none")


def var(name):
    return ("var", name)


def feed(height, told, zero, more, one):
    """The eater of numbers into the kind of a height."""
    return app(("eater", "nat", height), told, zero, more, one)


def number(many):
    term = ZERO
    for _ in range(many):
        term = app(SUCC, term)
    return term


ENDS = every(NAT, every(NAT, NAT))
ALWAYS = fun(NAT, NAT)
# One number is eaten, the other one is waited for.
PLUS = ("mean", "plus", ENDS, by_places(
    ("fun", "m", NAT, ("fun", "n", NAT, feed(0, ("fun", "any", NAT, NAT), var("n"), ("fun", "k", NAT, (
        "fun", "r", NAT, app(SUCC, var("r")))), var("m"))))))
TIMES = ("mean", "times", ENDS, by_places(
    ("fun", "m", NAT, ("fun", "n", NAT, feed(0, ("fun", "any", NAT, NAT), ZERO, ("fun", "k", NAT, (
        "fun", "r", NAT, app(("name", "plus"), var("n"), var("r")))), var("m"))))))
IDS = ("mean", "id", every(K, every(A, B)), fun(K, fun(A, A)))
TWICE = ("mean", "twice", every(K, every(every(A, B), every(B, C))),
         fun(K, fun(every(A, B), fun(B, app(B, app(B, A))))))
NUMS = ("mean", "nums", K, NAT)
FAMILY = ("mean", "family", every(NAT, K), fun(NAT, feed(1, fun(NAT, K), NAT, fun(NAT, fun(K, every(A, B))), A)))
# What is made of all numbers, so it is an own argument behind a saying between.
ORDS = ("thing", "ord", 0, (), ((), (("thing", "ord"),), (every(NAT, ("thing", "ord")),)))
# Two own arguments, behind two sayings between, that mean bounds, arguments ahead and one another.
WIDE = ("thing", "wide", 0, (K, every(A, K)), (
    (), (B, every(app(B, A), every(("same", app(C, B), A, A), app(("thing", "wide"), at(4), at(3)))),
         every(at(3), app(("thing", "wide"), at(4), at(3)))), (NAT, app(("thing", "wide"), C, B))))
# A thing of a greater height, an argument of which is a kind's.
CODES = ("thing", "code", 1, (), ((K,), (("thing", "code"), ("thing", "code"))))
BELIEF = ("hold", "belief", every(NAT, ("same", NAT, app(("name", "plus"), A, ZERO), A)))
SOME = ("hold", "some", NAT)
ROWS = [NATS, NONE, BOOL, LIST, TREE, PLUS, TIMES, IDS, TWICE, NUMS, FAMILY, ORDS, WIDE, CODES, BELIEF, SOME]
GROUND = Ground(ROWS)
# All that has no part, of this ground and not of it.
LEAVES = [A, B, C, at(3), at(12), K, ("kind", 1), ("kind", 4), ("kind", 5), ("name", "none"), ("thing", "plus"),
          ("thing", "gone"), ("maker", "nat", 2), ("maker", "some", 0), ("eater", "nat", 5), ("eater", "gone", 5)]
LEAVES += [("name", row[1]) for row in ROWS]
LEAVES += [(word, row[1], *more) for row in ROWS if row[0] == "thing"
           for word, *more in [["thing"], ["maker", 0], ["maker", 1], ["eater", 0], ["eater", 1]]]


class NoGood(Exception):
    """Nothing good was found by chance."""


class Goods:
    """Makes good terms of a saying, worked out, in a room of sayings, worked out."""

    def __init__(self, seed, ground=GROUND):
        self.chance = random.Random(seed)
        self.ground = ground

    def worked(self, term):
        return worked(self.ground, term)

    def kind(self, height, room, deep):
        """A term whose saying is the kind of the height."""
        if height > 1:
            return ("kind", height - 1)
        word = self.chance.choice(["leaf", "leaf", "all", "all", "same", "app", "given"]) if deep > 0 else "leaf"
        if word == "all":
            one = self.kind(self.chance.randrange(height + 1), room, deep - 1)
            return every(one, self.kind(height, [*room, self.worked(one)], deep - 1))
        if word == "given":
            other = self.chance.choice([NAT, K, FLAG])
            behind = self.kind(height, [*room, other], deep - 1)
            return app(fun(other, behind), self.term(room, other, deep - 1))
        if word == "same" and height == 0:
            told = self.kind(0, room, deep - 1)
            one = self.term(room, self.worked(told), deep - 1)
            return ("same", told, one, self.chance.choice([one, self.term(room, self.worked(told), deep - 1)]))
        if word == "app":
            if height == 1:
                return app(TREED, FLAG, fun(FLAG, self.kind(0, [*room, FLAG], deep - 1)))
            return app(LISTED, self.kind(0, room, deep - 1))
        if height == 1:
            return self.chance.choice([K, ("thing", "code")])
        return self.chance.choice([NAT, NAT, FLAG, ("name", "nums"), ("thing", "ord"), app(("name", "family"), number(1)),
                                   *[at(number) for number in range(len(room)) if room[-1 - number] == K]])

    def term(self, room, told, deep):
        """A term of this saying."""
        found = [at(number) for number in range(len(room)) if raise_by(room[-1 - number], number + 1) == told]
        if found and self.chance.random() < 0.4:
            return self.chance.choice(found)
        if deep <= 0:
            return self.formed(room, told, 0)
        way = self.chance.choice([self.formed, self.formed, self.formed, self.given, self.eaten, self.put, self.used])
        return way(room, told, deep)

    def formed(self, room, told, deep):
        """By the form of the saying."""
        head, given = told, []
        while head[0] == "app":
            head, given = head[1], [head[2], *given]
        if head[0] == "kind":
            return self.kind(head[1], room, deep)
        if head[0] == "all":
            return fun(head[1], self.term([*room, head[1]], head[2], deep - 1))
        if head[0] == "same" and alike(self.ground, head[2], head[3]):
            return ("self", head[1], head[2])
        if head == NAT:
            return app(SUCC, self.term(room, NAT, deep - 1)) if deep > 0 else ZERO
        if head == FLAG:
            return self.chance.choice([YES, NO])
        if head == LISTED:
            one = given[0]
            if deep <= 0:
                return app(NIL, one)
            return app(MORE, one, self.term(room, one, deep - 1), self.term(room, told, deep - 1))
        if head == ("thing", "ord"):
            return self.ord(room, deep)
        if head == ("thing", "code"):
            return app(("maker", "code", 0), self.kind(0, room, deep - 1))
        found = [at(number) for number in range(len(room)) if raise_by(room[-1 - number], number + 1) == told]
        if found:
            return self.chance.choice(found)
        raise NoGood

    def ord(self, room, deep):
        if deep <= 0:
            return ("maker", "ord", 0)
        if self.chance.random() < 0.5:
            return app(("maker", "ord", 1), self.ord(room, deep - 1))
        return app(("maker", "ord", 2), fun(NAT, self.term([*room, NAT], ("thing", "ord"), deep - 1)))

    def given(self, room, told, deep):
        """By a fun that is given something."""
        one = self.kind(self.chance.choice([0, 0, 1]), room, deep - 2)
        saying_of_one = self.worked(one)
        body = self.term([*room, saying_of_one], raise_by(told, 1), deep - 1)
        return app(fun(one, body), self.term(room, saying_of_one, deep - 1))

    def eaten(self, room, told, deep):
        """By an eater."""
        height = saying(self.ground, room, told)[1]
        if height > 3:
            raise NoGood
        word = self.chance.choice(["nat", "bool", "list", "ord"])
        thing = {"list": app(LISTED, FLAG)}.get(word, ("thing", word))
        one = self.term(room, thing, deep - 1)
        motive = fun(thing, raise_by(told, 1))
        head = app(("eater", word, height), *([FLAG] if word == "list" else []), motive)
        if word == "bool":
            return app(head, self.term(room, told, deep - 1), self.term(room, told, deep - 1), one)
        zero = self.term(room, told, deep - 1)
        step = self.step([FLAG, thing, told] if word == "list" else [thing, told], room, told, deep)
        if word != "ord":
            return app(head, zero, step, one)
        many = self.step([every(NAT, thing), every(NAT, raise_by(told, 1))], room, told, deep)
        return app(head, zero, step, many, one)

    def step(self, ahead, room, told, deep):
        """A fun of the sayings, each told as it stands in the room."""
        inner = list(room)
        for number, one in enumerate(ahead):
            inner.append(raise_by(one, number))
        term = self.term(inner, raise_by(told, len(ahead)), deep - 1)
        for one in reversed(inner[len(room):]):
            term = fun(one, term)
        return term

    def put(self, room, told, deep):
        """By a put."""
        one = self.kind(0, room, deep - 2)
        worth = self.term(room, self.worked(one), deep - 1)
        motive = fun(one, raise_by(told, 1))
        if self.chance.random() < 0.5:
            return ("put", motive, ("self", one, worth), self.term(room, told, deep - 1))
        other = app(("name", "belief"), worth) if self.worked(one) == NAT else ("self", one, worth)
        return ("put", motive, other, self.term(room, told, deep - 1))

    def used(self, room, told, deep):
        """By a name that is given all that it wants."""
        if told == NAT:
            name = self.chance.choice(["plus", "times", "some"])
            many = 0 if name == "some" else 2
            return app(("name", name), *[self.term(room, NAT, deep - 1) for _ in range(many)])
        if saying(self.ground, room, told) == K:
            if self.chance.random() < 0.5:
                return app(("name", "id"), told, self.term(room, told, deep - 1))
            turn = fun(told, self.term([*room, told], raise_by(told, 1), deep - 1))
            return app(("name", "twice"), told, turn, self.term(room, told, deep - 1))
        return self.formed(room, told, deep)

    def room(self, many):
        """A room of so many sayings, worked out."""
        room = []
        for _ in range(many):
            room.append(self.worked(self.kind(self.chance.choice([0, 0, 1]), room, 2)))
        return room

    def many(self, count, deep=4):
        """So many tuples (room, term, saying worked out)."""
        made = []
        while len(made) < count:
            try:
                room = self.room(self.chance.randrange(4))
                told = self.worked(self.kind(self.chance.choice([0, 0, 0, 1]), room, 2))
                made.append((room, self.term(room, told, deep), told))
            except NoGood:
                pass
        return made


def size(term):
    return 1 + sum(size(part) for part in term[1:] if isinstance(part, tuple))


def all_spots(term, spot=()):
    """All spots of a term, in order."""
    found = [spot]
    if term[0] in ("all", "fun", "app", "same", "self", "put"):
        for number, part in enumerate(term[1:]):
            found += all_spots(part, (*spot, number))
    return found


def part_of(term, spot):
    for number in spot:
        term = term[number + 1]
    return term


def with_part(term, spot, other):
    if not spot:
        return other
    number = spot[0] + 1
    return (*term[:number], with_part(term[number], spot[1:], other), *term[number + 1:])


def spoiled(chance, term, others=LEAVES):
    """The term with one part put otherwise."""
    spots = all_spots(term)
    spot = chance.choice(spots)
    ways = [chance.choice(others), part_of(term, chance.choice(spots)), ("app", part_of(term, spot), chance.choice(others)),
            raise_by(part_of(term, spot), 1), fun(NAT, raise_by(part_of(term, spot), 1)),
            ("self", NAT, part_of(term, spot)), apply(chance.choice(others), [part_of(term, spot)])]
    return with_part(term, spot, chance.choice(ways))
