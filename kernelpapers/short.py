"""Papers shortened."""

from kernelpapers.errors import NoFit, Stale
from kernelpapers.forms import with_part
from kernelpapers.grounds import want_ground, want_room
from kernelpapers.shortening import bettered, noted, other_parts, shortest_of, size_of
from kernelpapers.terms import want_term


def _want_paper(ground, room, paper):
    """Refuses what is no ground, no room, no term."""
    want_ground(ground)
    want_room(room)
    want_term(paper)


def shortenings(ground, room, paper):
    """All shortenings of a paper: tuples (spot, word, the whole paper that comes of it)."""
    _want_paper(ground, room, paper)
    found = other_parts(ground, paper, noted(ground, room, paper))
    return [(spot, word, with_part(paper, spot, other)) for spot, word, _, other in found]


def is_short(ground, room, paper):
    """Whether none of a paper's shortenings betters it."""
    _want_paper(ground, room, paper)
    return bettered(ground, room, paper) is None


def shortened(ground, room, paper):
    """A paper that comes of a paper by shortenings each of which betters it, and that none betters."""
    _want_paper(ground, room, paper)
    return shortest_of(ground, room, paper)


def shorten(shelf, name):
    """Shortens the paper of a saying on a shelf; tells by how much its size is less."""
    paper = shelf.paper(name)
    if shelf.is_meaning(name):
        raise NoFit(name)
    if name in shelf.stale():
        raise Stale([name])
    made = shortest_of(shelf.ground_ahead(name), [], paper)
    less = size_of(paper) - size_of(made)
    if less > 0:
        shelf.set_paper(name, made)
    return less
