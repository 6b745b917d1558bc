"""Steps of terms: all of them, the told way, and how two ways meet."""

from kernelpapers.errors import NoStep
from kernelpapers.forms import all_spots, inner_terms, reached, with_part
from kernelpapers.grounds import want_ground
from kernelpapers.rules import become, rule_of
from kernelpapers.terms import is_spot, want_term, want_whole
from kernelpapers.ways import gone_within, worked_within

MOST_STEPS = 3000


def steps(ground, term):
    """All steps of a term, (spot, rule, what it becomes), in the order of the spots."""
    want_ground(ground)
    want_term(term)
    found = []
    for spot, (part, _) in zip(all_spots(term), inner_terms(term)):
        rule = rule_of(ground, part)
        if rule is not None:
            found.append((spot, rule, with_part(term, spot, become(ground, part, rule))))
    return found


def stepped(ground, term, spot):
    """What a term becomes by its step at a spot."""
    want_ground(ground)
    want_term(term)
    return _gone_at(ground, term, spot)


def _gone_at(ground, term, spot):
    """What a term becomes by its step at a spot; refuses what is no spot at which it goes."""
    place = reached(term, spot) if is_spot(spot) else None
    rule = None if place is None else rule_of(ground, place[0])
    if rule is None:
        raise NoStep(spot)
    return with_part(term, spot, become(ground, place[0], rule))


def worked(ground, term, most=3000):
    """The term worked out by its told way."""
    want_ground(ground)
    want_term(term)
    want_whole(most, 0, MOST_STEPS)
    return worked_within(ground, term, most)


def told_way(ground, term, most=3000):
    """The spots of the told way of a term."""
    want_ground(ground)
    want_term(term)
    want_whole(most, 0, MOST_STEPS)
    return gone_within(ground, term, most)[0]


def alike(ground, one, other):
    """Whether two terms are the same once worked out."""
    want_ground(ground)
    want_term(one)
    want_term(other)
    return worked_within(ground, one, MOST_STEPS) == worked_within(ground, other, MOST_STEPS)


def meeting(ground, term, one, other):
    """How the ways by two spots meet: the spots by which each one goes on, and the term at which they meet."""
    want_ground(ground)
    want_term(term)
    by_one = _gone_at(ground, term, one)
    by_other = _gone_at(ground, term, other)
    # All rows of steps of a checked term end at one term, so any two ways meet there.
    way_of_one, end = gone_within(ground, by_one, MOST_STEPS)
    way_of_other, _ = gone_within(ground, by_other, MOST_STEPS)
    return way_of_one, way_of_other, end
