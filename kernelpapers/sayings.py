"""The kernel's rules: sayings are terms, and two of them are one where they are the same, worked out."""

from kernelpapers.errors import NoPaper
from kernelpapers.forms import given_at, lowered_once, raised_by
from kernelpapers.heads import head_saying
from kernelpapers.looks import fail_at, looked_through
from kernelpapers.ways import worked_out


class Kernel:
    """Tells the sayings of terms in a ground, all of them worked out. It believes nothing but the ground's rows."""

    def __init__(self, ground):
        self._ground = ground
        self._of_heads = {}

    def saying_in(self, room, term, notes=None):
        """The saying of a term in a room; refused where a part fails. Those of its parts are put into notes."""
        return looked_through(self, [self.worked(saying) for saying in room], term, notes)

    def kind_in(self, room, term):
        """The height of the kind that a term has in a room; refused where it has another saying or none."""
        saying = self.saying_in(room, term)
        if saying[0] != "kind":
            raise NoPaper((), "kind")
        return saying[1]

    def want_saying(self, room, term, saying):
        """Refuses a term that hasn't the saying, of a kind, in the room."""
        if self.saying_in(room, term) != self.worked(saying):
            raise NoPaper((), "unlike")

    def worked(self, term):
        """The term worked out."""
        return worked_out(self._ground, term)

    def within(self, look):
        """The room behind the binder of what is looked at."""
        return [*look.room, look.kept]

    def behind_binder(self, look):
        """Of all both parts are to have kinds, of fun the first one."""
        at = len(look.sayings) - 1
        if at == 0 or look.part[0] == "all":
            _want_kind(look, at)
        if at == 0:
            look.kept = self.worked(look.part[1])

    def behind_app(self, look):
        """The first part is to settle an all, the second what that is all of."""
        if len(look.sayings) == 2:
            told, other = look.sayings
            if told[0] != "all":
                fail_at(look, 0, "all")
            if told[1] != other:
                fail_at(look, 1, "unlike")

    def behind_same(self, look):
        """The first part is to have a kind; the others have it as their saying."""
        at = len(look.sayings) - 1
        if at == 0:
            _want_kind(look, 0)
            look.kept = self.worked(look.part[1])
        elif look.sayings[at] != look.kept:
            fail_at(look, at, "unlike")

    def behind_put(self, look):
        """The second part is to settle a same, the first is of both sides, the third settles the one side."""
        if len(look.sayings) == 2:
            sides = look.sayings[1]
            if sides[0] != "same":
                fail_at(look, 1, "same")
            told = look.sayings[0]
            if told[0] != "all" or told[1] != sides[1] or told[2][0] != "kind":
                fail_at(look, 0, "all")
        elif len(look.sayings) == 3:
            if look.sayings[2] != self.worked(("app", look.part[1], look.sayings[1][2])):
                fail_at(look, 2, "unlike")

    def saying_at(self, look):
        """The saying of what is looked at, whose parts have theirs."""
        part = look.part
        word = part[0]
        if word == "all":
            return ("kind", max(look.sayings[0][1], look.sayings[1][1]))
        if word == "fun":
            return ("all", look.kept, look.sayings[1])
        if word == "app":
            return self.given(look.sayings[0][2], part[2])
        if word == "same":
            return look.sayings[0]
        if word == "self":
            one = self.worked(part[2])
            return ("same", look.kept, one, one)
        if word == "put":
            return self.worked(("app", part[1], look.sayings[1][3]))
        return self._saying_of_leaf(look)

    def given(self, saying, term):
        """A saying behind a binder, worked out, given a term; worked out."""
        without = lowered_once(saying)
        if without is not None:
            return without
        # The term may stand there several times: so it is worked out ahead.
        return self.worked(given_at(saying, self.worked(term), 0))

    def _saying_of_leaf(self, look):
        """The saying of a part that has no parts."""
        part = look.part
        if part[0] == "at":
            if part[1] >= len(look.room):
                raise NoPaper(look.spot, "place")
            return raised_by(look.room[-1 - part[1]], part[1] + 1, 0)
        if part not in self._of_heads:
            self._of_heads[part] = self.worked(head_saying(self._ground, part, look.spot))
        return self._of_heads[part]


def _want_kind(look, at):
    """Refuses the part of this number where its saying is no kind."""
    if look.sayings[at][0] != "kind":
        fail_at(look, at, "kind")
