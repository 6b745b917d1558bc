"""Deeds: what is one, and what it does at a goal."""

from kernelpapers.doings import done
from kernelpapers.errors import NoDeed
from kernelpapers.grounds import want_ground, want_room
from kernelpapers.sayings import Kernel
from kernelpapers.terms import MOST_NUMBER, is_term, is_whole, want_term

MOST_GIVEN = 8


def is_deed(thing):
    """Whether a thing is a deed."""
    if not isinstance(thing, tuple) or not thing or not isinstance(thing[0], str):
        return False
    word = thing[0]
    if len(thing) == 1:
        return word in ("bring", "steps")
    if len(thing) == 2:
        if word == "split":
            return is_whole(thing[1], 0, MOST_NUMBER)
        return word in ("give", "turn", "cut", "put") and is_term(thing[1])
    if len(thing) != 3 or not _are_given(thing[2]):
        return False
    if word == "make":
        return is_whole(thing[1], 0, MOST_NUMBER)
    return word == "use" and is_term(thing[1])


def _are_given(thing):
    """Whether a thing is a tuple of none to eight things, each a term or None."""
    if not isinstance(thing, tuple) or len(thing) > MOST_GIVEN:
        return False
    return all([one is None or is_term(one) for one in thing])


def want_deed(thing):
    """Refuses what is no deed."""
    if not is_deed(thing):
        raise NoDeed(thing)


def done_at(ground, room, saying, deed):
    """The goals that a deed leaves at a goal, and a def that makes its paper of theirs."""
    want_ground(ground)
    want_room(room)
    want_term(saying)
    want_deed(deed)
    return done(ground, Kernel(ground), room, saying, deed)
