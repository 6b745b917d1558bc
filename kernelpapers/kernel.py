"""The kernel: the saying of a term or the least place where it fails, and what of a ground isn't sound."""

from kernelpapers.errors import NoPaper
from kernelpapers.grounds import ground_of, want_ground, want_room
from kernelpapers.sayings import Kernel
from kernelpapers.terms import HIGHEST, want_term
from kernelpapers.things import ungrown


def saying_of(ground, room, term):
    """The saying of a term in a room, worked out; refused where the term fails."""
    want_ground(ground)
    want_room(room)
    want_term(term)
    return Kernel(ground).saying_in(room, term)


def settles(ground, room, term, saying):
    """Whether a term has a saying in a room."""
    want_ground(ground)
    want_room(room)
    want_term(term)
    want_term(saying)
    kernel = Kernel(ground)
    if _fault_of_kind(kernel, room, saying) is not None:
        return False
    return _fault_of_paper(kernel, room, term, saying) is None


def unsound(ground):
    """What of a ground isn't sound: (row, where, spot, why) of the first that fails, or None."""
    want_ground(ground)
    rows = ground.rows()
    for number, row in enumerate(rows):
        fault = fault_of_row(ground_of(rows[:number]), row)
        if fault is not None:
            return (number, *fault)
    return None


def unsound_room(ground, room):
    """What of a room isn't sound: (number, spot, why) of the first term that has no kind, or None."""
    want_ground(ground)
    want_room(room)
    return _fault_of_room(Kernel(ground), room)


def fault_of_row(ground, row):
    """What of a row isn't sound in the ground of those ahead: (where, spot, why), or None."""
    if row[0] == "thing":
        return _fault_of_bounds(ground, row) or _fault_of_makers(ground, row)
    kernel = Kernel(ground)
    fault = _fault_of_kind(kernel, [], row[2])
    if fault is not None:
        return (("saying",), *fault)
    if row[0] == "mean":
        fault = _fault_of_paper(kernel, [], row[3], row[2])
        if fault is not None:
            return (("term",), *fault)
    return None


def _fault_of_bounds(ground, row):
    """What of a thing's bounds isn't sound: (where, spot, why), or None."""
    fault = _fault_of_room(Kernel(ground), row[3])
    if fault is None:
        return None
    number, spot, why = fault
    return ("bound", number), spot, why


def _fault_of_makers(ground, row):
    """What of a thing's makers isn't sound, where its bounds are: (where, spot, why), or None."""
    kernel = Kernel(ground_of([*ground.rows(), (*row[:4], ())]))
    stray = ungrown(row)
    for maker, sayings in enumerate(row[4]):
        for argument in range(len(sayings)):
            if stray is not None and stray[:2] == (maker, argument):
                return ("maker", maker, argument), stray[2], "growing"
            room = [*row[3], *sayings[:argument]]
            fault = _fault_of_kind(kernel, room, sayings[argument], row[2])
            if fault is not None:
                return (("maker", maker, argument), *fault)
    return None


def _fault_of_room(kernel, room):
    """What of a room isn't sound: (number, spot, why), or None."""
    for number, saying in enumerate(room):
        fault = _fault_of_kind(kernel, room[:number], saying)
        if fault is not None:
            return (number, *fault)
    return None


def _fault_of_kind(kernel, room, saying, highest=HIGHEST):
    """Why a saying has no kind up to the highest one: (spot, why), or None."""
    try:
        height = kernel.kind_in(room, saying)
    except NoPaper as fault:
        return fault.spot, fault.why
    return ((), "height") if height > highest else None


def _fault_of_paper(kernel, room, term, saying):
    """Why a term hasn't a saying: (spot, why), or None."""
    try:
        kernel.want_saying(room, term, saying)
    except NoPaper as fault:
        return fault.spot, fault.why
    return None
