"""The second checker's rules: sayings are Laters, and two of them are one where they are told as the same term."""

from kernelpapers.errors import NoPaper
from kernelpapers.heads import head_saying
from kernelpapers.looks import fail_at, looked_through
from kernelpapers.reckoned import Later, Reckoner, later_of, later_place

# A Later given another one, as a term among both.
GIVEN = ("app", ("at", 1), ("at", 0))


class Second:
    """Tells the sayings of terms in a sound ground by worths, and terms worked out by worths."""

    def __init__(self, ground):
        self._ground = ground
        self._reckoner = Reckoner(ground)
        self._places = []
        self._of_heads = {}

    def saying_in(self, room, term):
        """The saying of a term in a sound room, worked out; refused where a part fails."""
        sayings = [Later(saying, self._all_places(at)) for at, saying in enumerate(room)]
        return self._term_of(looked_through(self, sayings, term), len(room))

    def kind_in(self, room, saying):
        """The height of the kind that a term has in a room; refused where it has another saying or none."""
        told = self.saying_in(room, saying)
        if told[0] != "kind":
            raise NoPaper((), "kind")
        return told[1]

    def want_saying(self, room, term, saying):
        """Refuses a term that hasn't the saying, of a kind, in the room."""
        wanted = self._term_of(Later(saying, self._all_places(len(room))), len(room))
        if self.saying_in(room, term) != wanted:
            raise NoPaper((), "unlike")

    def worked(self, term):
        """A term that has a saying in no room, worked out."""
        return self._term_of(Later(term, ()), 0)

    def _term_of(self, later, depth):
        """The term of a Later, worked out, in a room of so many."""
        return self._reckoner.term_of(later, depth)

    def _head_of(self, later):
        """The head of a Later's worth where it is given nothing, else None."""
        head, given = self._reckoner.worth_of(later)
        return None if given else head

    def _all_places(self, many):
        """The places of a room of so many."""
        while len(self._places) < many:
            self._places.append(later_place(len(self._places)))
        return tuple(self._places[:many])

    def _part_of(self, look, at):
        """A Later of the part of this number of what is looked at, which stands behind no binder of it."""
        return later_of(look.part[at + 1], self._all_places(len(look.room)))

    def within(self, look):
        """The room behind the binder of what is looked at."""
        return [*look.room, look.kept]

    def behind_binder(self, look):
        """Of all both parts are to have kinds, of fun the first one."""
        at = len(look.sayings) - 1
        if at == 0 or look.part[0] == "all":
            self._want(look, at, look.sayings[at], "kind", "kind")
        if at == 0:
            look.kept = self._part_of(look, 0)

    def behind_app(self, look):
        """The first part is to settle an all, the second what that is all of."""
        if len(look.sayings) == 2:
            told = self._want(look, 0, look.sayings[0], "all", "all")
            self._want_alike(look, 1, told[1])

    def behind_same(self, look):
        """The first part is to have a kind; the others have it as their saying."""
        at = len(look.sayings) - 1
        if at == 0:
            self._want(look, 0, look.sayings[0], "kind", "kind")
            look.kept = self._part_of(look, 0)
        else:
            self._want_alike(look, at, look.kept)

    def behind_put(self, look):
        """The second part is to settle a same, the first is of both sides, the third settles the one side."""
        if len(look.sayings) == 2:
            look.kept = self._want(look, 1, look.sayings[1], "same", "same")
            told = self._want(look, 0, look.sayings[0], "all", "all")
            depth = len(look.room)
            if self._term_of(told[1], depth) != self._term_of(look.kept[1], depth):
                fail_at(look, 0, "all")
            self._want(look, 0, Later(told[2], (*told[3], later_place(depth))), "kind", "all")
        elif len(look.sayings) == 3:
            self._want_alike(look, 2, Later(GIVEN, (self._part_of(look, 0), look.kept[2])))

    def _want(self, look, at, saying, word, why):
        """The head of a saying; refuses the part of this number where it isn't of this word."""
        head = self._head_of(saying)
        if head is None or head[0] != word:
            fail_at(look, at, why)
        return head

    def _want_alike(self, look, at, saying):
        """Refuses the part of this number where its saying isn't this one."""
        depth = len(look.room)
        if self._term_of(look.sayings[at], depth) != self._term_of(saying, depth):
            fail_at(look, at, "unlike")

    def saying_at(self, look):
        """The saying of what is looked at, whose parts have theirs."""
        word = look.part[0]
        if word == "all":
            return Later(("kind", max([self._head_of(saying)[1] for saying in look.sayings])), ())
        if word == "fun":
            behind = self._term_of(look.sayings[1], len(look.room) + 1)
            return Later(("all", look.part[1], behind), self._all_places(len(look.room)))
        if word == "app":
            head = self._head_of(look.sayings[0])
            return Later(head[2], (*head[3], self._part_of(look, 1)))
        if word == "same":
            return look.sayings[0]
        if word == "self":
            return Later(("same", look.part[1], look.part[2], look.part[2]), self._all_places(len(look.room)))
        if word == "put":
            return Later(GIVEN, (self._part_of(look, 0), look.kept[3]))
        return self._saying_of_leaf(look)

    def _saying_of_leaf(self, look):
        """The saying of a part that has no parts."""
        part = look.part
        if part[0] == "at":
            if part[1] >= len(look.room):
                raise NoPaper(look.spot, "place")
            return look.room[-1 - part[1]]
        if part not in self._of_heads:
            self._of_heads[part] = Later(head_saying(self._ground, part, look.spot), ())
        return self._of_heads[part]
