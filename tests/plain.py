"""Points 31 to 45 once more, as plainly as the document has them: slowly, and by functions that call themselves.

Nothing of the package is used but the sayings of heads and the own arguments of makers (points 23 and 24), which have
tests of their own.
"""

from kernelpapers.things import eater_saying, maker_saying, owns, thing_saying, ungrown

PARTS = {"all": 2, "fun": 2, "app": 2, "same": 3, "self": 2, "put": 3}


class Fails(Exception):
    """A term fails at a spot, for a reason."""

    def __init__(self, spot, why):
        Exception.__init__(self, spot, why)
        self.spot = spot
        self.why = why


class TooLong(Exception):
    """A term isn't worked out behind so many steps."""


def over_parts(term, turn):
    """The term with each part turned; the turn is handed a part and how many binders more stand above it."""
    if term[0] not in PARTS:
        return term
    inner = [0, 1] if term[0] in ("all", "fun") else [0] * PARTS[term[0]]
    return (term[0], *[turn(part, more) for part, more in zip(term[1:], inner)])


def raise_by(term, by, start=0):
    if term[0] == "at":
        return ("at", term[1] + by) if term[1] >= start else term
    return over_parts(term, lambda part, more: raise_by(part, by, start + more))


def give(term, other, number=0):
    """The term with the other one, which stands in the term's room without that place, as the place of this number."""
    if term[0] == "at":
        if term[1] == number:
            return other
        return ("at", term[1] - 1) if term[1] > number else term
    return over_parts(term, lambda part, more: give(part, raise_by(other, more), number + more))


def spine(term):
    if term[0] != "app":
        return term, []
    head, given = spine(term[1])
    return head, [*given, term[2]]


def apply(head, some):
    for term in some:
        head = ("app", head, term)
    return head


def row_of(ground, name, *words):
    for row in ground.rows():
        if row[1] == name and row[0] in words:
            return row
    return None


def step_at_itself(ground, term):
    """The rule and what becomes of a term at its own spot, or None."""
    if term[0] == "app" and term[1][0] == "fun":
        return "give", give(term[1][2], term[2])
    if term[0] == "put" and term[2][0] == "self":
        return "self", term[3]
    if term[0] == "name":
        row = row_of(ground, term[1], "mean")
        return ("mean", row[3]) if row else None
    eater, given = spine(term)
    if eater[0] != "eater" or not given:
        return None
    row = row_of(ground, eater[1], "thing")
    maker, some = spine(given[-1])
    if row is None or maker[:2] != ("maker", eater[1]) or maker[2] not in range(len(row[4])):
        return None
    bounds = len(row[3])
    if len(given) != bounds + 1 + len(row[4]) + 1 or len(some) != bounds + len(row[4][maker[2]]):
        return None
    return "eat", eaten(row, eater, given, maker[2], some[bounds:])


def eaten(row, eater, given, number, arguments):
    bounds = given[:len(row[3])]
    told = []
    for argument, between in owns(row, number):
        # From within outwards: the sayings between, each standing behind those ahead of it.
        ahead = [*bounds, *arguments[:argument]]
        many = len(between)
        places = [("at", many - 1 - at) for at in range(many)]
        own = apply(raise_by(arguments[argument], many), places)
        made = apply(raise_by(eater, many), [*[raise_by(one, many) for one in given[:-1]], own])
        for at in reversed(range(many)):
            saying = between[at]
            for number_ahead in reversed(range(len(ahead))):
                saying = give(saying, raise_by(ahead[number_ahead], number_ahead + at), at)
            made = ("fun", saying, made)
        told.append(made)
    return apply(given[len(bounds) + 1 + number], [*arguments, *told])


def steps(ground, term, spot=()):
    """All steps, in the order of the spots: (spot, rule, what the whole becomes)."""
    found = []
    itself = step_at_itself(ground, term)
    if itself:
        found.append(((), *itself))
    if term[0] in PARTS:
        for at in range(PARTS[term[0]]):
            for spot, rule, made in steps(ground, term[at + 1]):
                found.append(((at, *spot), rule, (*term[:at + 1], made, *term[at + 2:])))
    return found


def first_step(ground, term):
    """The step at the least spot, or None: as `steps`, but not looking for the others."""
    itself = step_at_itself(ground, term)
    if itself:
        return (), itself[1]
    if term[0] in PARTS:
        for at in range(PARTS[term[0]]):
            found = first_step(ground, term[at + 1])
            if found:
                return (at, *found[0]), (*term[:at + 1], found[1], *term[at + 2:])
    return None


def told_way(ground, term, most=3000):
    """The spots of the told way, and the term at its end."""
    way = []
    while True:
        found = first_step(ground, term)
        if found is None:
            return way, term
        if len(way) == most:
            raise TooLong
        way.append(found[0])
        term = found[1]


def worked(ground, term):
    return told_way(ground, term)[1]


def alike(ground, one, other):
    return worked(ground, one) == worked(ground, other)


def saying(ground, room, term, spot=()):
    """The saying, worked out, or Fails."""
    return worked(ground, unworked_saying(ground, room, term, spot))


def kind(ground, room, term, at, spot):
    """The height of the kind that the part of this number has; fails with `kind` there."""
    told = saying(ground, room, term, (*spot, at))
    if told[0] != "kind":
        raise Fails((*spot, at), "kind")
    return told[1]


def want_alike(ground, room, term, at, spot, other):
    if not alike(ground, saying(ground, room, term, (*spot, at)), other):
        raise Fails((*spot, at), "unlike")


def unworked_saying(ground, room, term, spot):
    word, *rest = term
    if word == "at":
        if rest[0] >= len(room):
            raise Fails(spot, "place")
        return raise_by(room[-1 - rest[0]], rest[0] + 1)
    if word == "kind":
        if rest[0] == 5:
            raise Fails(spot, "height")
        return ("kind", rest[0] + 1)
    if word in ("name", "thing", "maker", "eater"):
        return saying_of_head(ground, word, rest, spot)
    if word == "all":
        height = kind(ground, room, rest[0], 0, spot)
        return ("kind", max(height, kind(ground, [*room, rest[0]], rest[1], 1, spot)))
    if word == "fun":
        kind(ground, room, rest[0], 0, spot)
        return ("all", rest[0], saying(ground, [*room, rest[0]], rest[1], (*spot, 1)))
    if word == "app":
        told = saying(ground, room, rest[0], (*spot, 0))
        other = saying(ground, room, rest[1], (*spot, 1))
        if told[0] != "all":
            raise Fails((*spot, 0), "all")
        if not alike(ground, told[1], other):
            raise Fails((*spot, 1), "unlike")
        return give(told[2], rest[1])
    if word == "put":
        return saying_of_put(ground, room, rest, spot)
    height = kind(ground, room, rest[0], 0, spot)
    for at in range(1, len(rest)):
        want_alike(ground, room, rest[at], at, spot, rest[0])
    return ("kind", height) if word == "same" else ("same", rest[0], rest[1], rest[1])


def saying_of_head(ground, word, rest, spot):
    row = row_of(ground, rest[0], *(("mean", "hold") if word == "name" else ("thing",)))
    if row is None:
        raise Fails(spot, "name")
    if word == "name":
        return row[2]
    if word == "thing":
        return thing_saying(row)
    if word == "maker":
        if rest[1] >= len(row[4]):
            raise Fails(spot, "maker")
        return maker_saying(row, rest[1])
    if rest[1] == 5:
        raise Fails(spot, "height")
    return eater_saying(row, rest[1])


def saying_of_put(ground, room, rest, spot):
    of_told = saying(ground, room, rest[0], (*spot, 0))
    of_sides = saying(ground, room, rest[1], (*spot, 1))
    if of_sides[0] != "same":
        raise Fails((*spot, 1), "same")
    if of_told[0] != "all" or not alike(ground, of_told[1], of_sides[1]) or of_told[2][0] != "kind":
        raise Fails((*spot, 0), "all")
    want_alike(ground, room, rest[2], 2, spot, ("app", rest[0], of_sides[2]))
    return ("app", rest[0], of_sides[3])


def fault_of_kind(ground, room, term):
    """(spot, why) where a term has no kind in a room, or its height."""
    try:
        told = saying(ground, room, term)
    except Fails as fault:
        return fault.spot, fault.why
    return told[1] if told[0] == "kind" else ((), "kind")


def unsound(make, ground):
    """Point 45, in grounds that are made of rows by `make`."""
    for number, row in enumerate(ground.rows()):
        fault = fault_of_row(make, ground.rows()[:number], row)
        if fault:
            return (number, *fault)
    return None


def fault_of_row(make, ahead, row):
    ground = make(ahead)
    if row[0] == "thing":
        return fault_of_thing(make, ahead, row)
    fault = fault_of_kind(ground, [], row[2])
    if isinstance(fault, tuple):
        return (("saying",), *fault)
    if row[0] == "mean":
        try:
            told = saying(ground, [], row[3])
        except Fails as fault:
            return ("term",), fault.spot, fault.why
        if not alike(ground, told, row[2]):
            return ("term",), (), "unlike"
    return None


def fault_of_thing(make, ahead, row):
    for at, bound in enumerate(row[3]):
        fault = fault_of_kind(make(ahead), list(row[3][:at]), bound)
        if isinstance(fault, tuple):
            return (("bound", at), *fault)
    ground = make([*ahead, (*row[:4], ())])
    for maker, arguments in enumerate(row[4]):
        for at, argument in enumerate(arguments):
            where = ("maker", maker, at)
            # The argument alone, all others of no matter.
            alone = (*row[:4], ((("kind", 0),) * at + (argument,),))
            stray = ungrown(alone)
            if stray:
                return where, stray[2], "growing"
            fault = fault_of_kind(ground, [*row[3], *arguments[:at]], argument)
            if isinstance(fault, tuple):
                return (where, *fault)
            if fault > row[2]:
                return where, (), "height"
    return None
