"""The second checker, which goes by worths and not by steps, and worths that are given to one another."""

from kernelpapers.errors import NoFit, NoGround, NoTerm
from kernelpapers.grounds import want_ground, want_room
from kernelpapers.second import Second
from kernelpapers.terms import want_term


def saying_by_worths(ground, room, term):
    """The saying of a term in a sound room of a sound ground, worked out; refused where the term fails."""
    want_ground(ground)
    want_room(room)
    want_term(term)
    return Second(ground).saying_in(room, term)


def worked_by_worths(ground, term):
    """A term worked out; refused where it has no saying in no room."""
    want_ground(ground)
    want_term(term)
    second = Second(ground)
    second.saying_in([], term)
    return second.worked(term)


def giver(ground, term):
    """A def that tells the term given another one, worked out."""
    want_ground(ground)
    want_term(term)
    if Second(ground).saying_in([], term)[0] != "all":
        raise NoFit(term)

    def given(other):
        want_term(other)
        return worked_by_worths(ground, ("app", term, other))

    return given


class Worth:
    """What a term comes to in a sound ground. It never changes."""

    def __init__(self, ground, term):
        want_ground(ground)
        want_term(term)
        second = Second(ground)
        self._ground = ground
        self._saying = second.saying_in([], term)
        self._term = second.worked(term)

    def term(self):
        """The term, worked out."""
        return self._term

    def saying(self):
        """The term's saying, worked out."""
        return self._saying

    def ground(self):
        """The ground in which it is a worth."""
        return self._ground

    def to(self, other):
        """The Worth of the app of this one's term and another one's."""
        if not isinstance(other, Worth):
            raise NoTerm(other)
        if self._ground != other._ground:
            raise NoGround(other)
        return Worth(self._ground, ("app", self._term, other._term))

    def __eq__(self, other):
        return isinstance(other, Worth) and self._ground == other._ground and self._term == other._term
