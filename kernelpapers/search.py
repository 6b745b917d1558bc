"""A search that finds each paper within a depth."""

from kernelpapers.asked import want_goal
from kernelpapers.grounds import want_ground, want_room
from kernelpapers.seeking import sought
from kernelpapers.terms import want_term, want_whole

MOST_DEPTH = 6


def search(ground, room, saying, depth=3):
    """A paper of the saying, worked out, in the room, of this depth; None where there is none."""
    want_ground(ground)
    want_room(room)
    want_term(saying)
    want_whole(depth, 0, MOST_DEPTH)
    want_goal(ground, room, saying)
    return sought(ground, room, saying, depth)
