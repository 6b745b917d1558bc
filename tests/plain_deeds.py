"""Points 71 to 78 once more, as plainly as the document has them, by functions that call themselves."""

from kernelpapers.things import eater_saying, owns
from plain import (PARTS, Fails, apply, give, kind, over_parts, raise_by, row_of, saying, spine, worked)


class NotDone(Exception):
    """A deed doesn't fit."""


def under(term):
    """How many binders stand above each part."""
    return [0, 1] if term[0] in ("all", "fun") else [0] * PARTS.get(term[0], 0)


def leans(term, number=0):
    """Whether a place is free in a term."""
    if term[0] == "at":
        return term[1] == number
    return any(leans(part, number + more) for part, more in zip(term[1:], under(term)))


def done(ground, room, goal, deed):
    """The goals, and a function of a list of papers; Fails or NotDone."""
    def known(term):
        return saying(ground, room, term)

    def has_kind(term):
        return known(term)[0] == "kind"

    word, *rest = deed
    for term in [rest[0]] if word in ("give", "use", "turn", "cut", "put") else []:
        known(term)
    if word in ("use", "make"):
        for term in rest[1]:
            if term is not None:
                known(term)
    end = worked(ground, goal)
    goals, paper = DEEDS[word](ground, list(room), goal, end, *rest)
    if any(len(left) > 12 for left, _ in goals):
        raise NotDone
    return [(tuple(left), told) for left, told in goals], paper


def fit(told):
    if not told:
        raise NotDone


def bring(ground, room, goal, end):
    told = goal if goal[0] == "all" else end
    fit(told[0] == "all")
    return [([*room, told[1]], told[2])], lambda papers: ("fun", told[1], papers[0])


def give_one(ground, room, goal, end, term):
    fit(saying(ground, room, term) == end)
    return [], lambda papers: term


def use(ground, room, goal, end, head, some):
    told = saying(ground, room, head)
    goals = []
    for thing in some:
        fit(told[0] == "all")
        _, a, b = told
        if thing is None:
            fit(not leans(b))
            goals.append((room, a))
            told = raise_by(b, -1, 1)
        else:
            fit(saying(ground, room, thing) == a)
            told = worked(ground, give(b, thing))
    fit(told == end)

    def paper(papers):
        ahead = list(papers)
        return apply(head, [ahead.pop(0) if thing is None else thing for thing in some])

    return goals, paper


def bounded(ground, term):
    """The row and the bounds of a thing that is given its bounds."""
    head, given = spine(term)
    row = row_of(ground, head[1], "thing") if head[0] == "thing" else None
    fit(row is not None and len(row[3]) == len(given))
    return row, given


def make(ground, room, goal, end, number, some):
    row, bounds = bounded(ground, end)
    fit(number < len(row[4]))
    return use(ground, room, goal, end, apply(("maker", row[1], number), bounds), some)


def split(ground, room, goal, end, place):
    fit(place < len(room))
    told = worked(ground, raise_by(room[-1 - place], place + 1))
    row, bounds = bounded(ground, told)
    height = saying(ground, room, end)[1]
    fit(height < 5)
    motive = ("fun", told, turn_place(raise_by(end, 1), place + 1))
    try:
        saying(ground, room, motive)
    except Fails:
        raise NotDone from None
    # The eater's saying, gone into: the bounds, P, and then a step for each maker.
    steps = eater_saying(row, height)
    for term in [*bounds, motive]:
        steps = give(steps[2], term)
    goals = []
    for number in range(len(row[4])):
        inner, step = list(room), steps[1]
        for _ in range(len(row[4][number]) + len(owns(row, number))):
            inner.append(worked(ground, step[1]))
            step = step[2]
        goals.append((inner, worked(ground, step)))
        steps = give(steps[2], ("thing", "none"))

    def paper(papers):
        told_steps = []
        for (inner, _), term in zip(goals, papers):
            for one in reversed(inner[len(room):]):
                term = ("fun", one, term)
            told_steps.append(term)
        return apply(("eater", row[1], height), [*bounds, motive, *told_steps, ("at", place)])

    return goals, paper


def turn_place(term, number, deep=0):
    """The term with a place turned into the nearest one."""
    if term == ("at", number + deep):
        return ("at", deep)
    if term[0] not in PARTS:
        return term
    return (term[0], *[turn_place(part, number, deep + more) for part, more in zip(term[1:], under(term))])


def steps(ground, room, goal, end):
    return [(room, end)], lambda papers: papers[0]


def turn(ground, room, goal, end, other):
    fit(saying(ground, room, other)[0] == "kind" and worked(ground, other) == end)
    return [(room, other)], lambda papers: papers[0]


def cut(ground, room, goal, end, other):
    fit(saying(ground, room, other)[0] == "kind")
    return [(room, other), ([*room, other], raise_by(goal, 1))], lambda papers: ("app", ("fun", other, papers[1]), papers[0])


def put(ground, room, goal, end, same):
    told = saying(ground, room, same)
    fit(told[0] == "same")
    _, a, u, v = told
    body, many = put_places(end, v)
    fit(many)
    motive = ("fun", a, body)
    try:
        of_motive = saying(ground, room, motive)
    except Fails:
        raise NotDone from None
    fit(of_motive[2][0] == "kind")
    return [(room, worked(ground, ("app", motive, u)))], lambda papers: ("put", motive, same, papers[0])


def put_places(term, other, deep=0):
    """The term behind a binder more, its place standing where the other term stood, and how often."""
    if term == raise_by(other, deep):
        return ("at", deep), 1
    if term[0] == "at":
        return (("at", term[1] + 1) if term[1] >= deep else term), 0
    told = [put_places(part, other, deep + more) for part, more in zip(term[1:], under(term))]
    if not told:
        return term, 0
    return (term[0], *[part for part, _ in told]), sum(many for _, many in told)


DEEDS = {"bring": bring, "give": give_one, "use": use, "make": make, "split": split, "steps": steps, "turn": turn, "cut": cut,
         "put": put}
