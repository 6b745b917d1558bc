"""How papers become shorter. Who calls has looked at the ground and the room."""

from kernelpapers.errors import NoPaper
from kernelpapers.forms import all_spots, inner_terms, lowered_once, raised_by, with_part
from kernelpapers.rules import become, rule_of
from kernelpapers.sayings import Kernel


def noted(ground, room, paper):
    """By each spot of a paper: the saying of the part there and the room in which it stands, both worked out."""
    notes = {}
    Kernel(ground).saying_in(room, paper, notes)
    return notes


def other_parts(ground, paper, notes):
    """What may stand for a part of a paper: a list of tuples (spot, word, part, what stands there then)."""
    found = []
    for spot, (part, _) in zip(all_spots(paper), inner_terms(paper)):
        saying, around = notes[spot]
        for word, other in _others_of(ground, part, saying, around):
            found.append((spot, word, part, other))
    return found


def _others_of(ground, part, saying, room):
    """What may stand for a part of this saying in this room, both worked out: a list of tuples (word, term)."""
    found = []
    rule = rule_of(ground, part)
    if rule is not None:
        found.append((rule, become(ground, part, rule)))
    place = None if part[0] == "at" else _place_of(saying, room)
    if place is not None:
        found.append(("room", ("at", place)))
    bare = _bare_of(part)
    if bare is not None:
        found.append(("bare", bare))
    return found


def _place_of(saying, room):
    """The least place of a room that has the saying, or None."""
    for place in range(len(room)):
        told = room[-1 - place]
        if told[0] == saying[0] and raised_by(told, place + 1, 0) == saying:
            return place
    return None


def _bare_of(part):
    """What is given the place of a fun, and nothing else, where a part is such a fun; else None."""
    if part[0] != "fun" or part[2][0] != "app" or part[2][2] != ("at", 0):
        return None
    return lowered_once(part[2][1])


def size_of(term):
    """How many terms are in a term, itself counted."""
    return len(inner_terms(term))


def bettered(ground, room, paper):
    """What betters a paper by one shortening, or None where none does."""
    notes = noted(ground, room, paper)
    kernel = Kernel(ground)
    better = []
    for number, (spot, _, part, other) in enumerate(other_parts(ground, paper, notes)):
        less = size_of(part) - size_of(other)
        if less > 0:
            better.append((-less, number, spot, other))
    # What makes it shortest is tried first, so that there are few to be made.
    for _, _, spot, other in sorted(better, key=lambda one: (one[0], one[1])):
        whole = with_part(paper, spot, other)
        if _has_saying(kernel, room, whole, notes[()][0]):
            return whole
    return None


def _has_saying(kernel, room, term, saying):
    """Whether a term has just this saying, worked out, in a room."""
    try:
        return kernel.saying_in(room, term) == saying
    except NoPaper:
        return False


def shortest_of(ground, room, paper):
    """A paper that comes of a paper by shortenings each of which betters it, and that none betters."""
    made = paper
    better = bettered(ground, room, paper)
    while better is not None:
        made = better
        better = bettered(ground, room, made)
    return made
