"""What is looked at ahead of a work or a search: whether there is a goal at all."""

from kernelpapers.errors import NoRoom, Unsound
from kernelpapers.kernel import unsound, unsound_room
from kernelpapers.sayings import Kernel


def want_goal(ground, room, saying):
    """Refuses a ground that isn't sound, a room that isn't, then a saying that has no kind there."""
    fault = unsound(ground)
    if fault is not None:
        row, where, spot, why = fault
        raise Unsound(row, where, spot, why)
    if unsound_room(ground, room) is not None:
        raise NoRoom(room)
    Kernel(ground).kind_in(room, saying)
