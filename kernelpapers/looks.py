"""How a checker goes through a term: part by part, each wholly, without calling itself."""

from kernelpapers.errors import NoPaper
from kernelpapers.forms import parts_of, passed


class Look:
    """A part that is looked at: its spot, the sayings of its room, and those of its own parts so far."""

    def __init__(self, part, spot, room):
        self.part = part
        self.spot = spot
        self.room = room
        self.sayings = []
        # What the checker keeps of the first part, once that was looked at.
        self.kept = None


def looked_through(checker, room, term, notes=None):
    """The saying of a term in a room, both as the checker has sayings; refused where a part fails.

    Where there are notes, a dict, they have of each spot the saying of the part there and the room in which it stands.

    The checker is asked behind each part whether its saying is as it must be (`behind_binder` and so on),
    for the room behind the binder of a look (`within`), and for the saying of a look of which all parts
    have theirs (`saying_at`).
    """
    looks = [Look(term, (), room)]
    while True:
        look = looks[-1]
        at = len(look.sayings)
        below = parts_of(look.part)
        if at < len(below):
            inner = checker.within(look) if passed(look.part[0], at) else look.room
            looks.append(Look(below[at], (*look.spot, at), inner))
            continue
        saying = checker.saying_at(look)
        if notes is not None:
            notes[look.spot] = (saying, look.room)
        looks.pop()
        if not looks:
            return saying
        looks[-1].sayings.append(saying)
        _look_behind_part(checker, looks[-1])


def _look_behind_part(checker, look):
    """Lets the checker refuse the part that was looked at last, as soon as it can be told."""
    word = look.part[0]
    if word in ("all", "fun"):
        checker.behind_binder(look)
    elif word == "app":
        checker.behind_app(look)
    elif word == "put":
        checker.behind_put(look)
    else:
        checker.behind_same(look)


def fail_at(look, at, why):
    """Refuses the part of this number of what is looked at."""
    raise NoPaper((*look.spot, at), why)
