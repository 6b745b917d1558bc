"""How papers are sought. Who calls has looked at the ground, the room and the saying."""

from kernelpapers.forms import given_all, lowered_once, raised_by
from kernelpapers.grounds import thing_given
from kernelpapers.sayings import Kernel


def sought(ground, room, saying, depth):
    """A paper of the saying, worked out, in the room, of this depth; None where there is none."""
    kernel = Kernel(ground)
    seeker = Seeker(ground, kernel)
    around = Around([kernel.worked(one) for one in room], 0)
    end = kernel.worked(saying)
    # The least depths are soon gone through, and what is found there needs no others.
    for least in range(1, depth + 1):
        paper = seeker.paper_of(around, end, least)
        if paper is not None:
            return paper
    return None


class Around:
    """A room in a search, told by a number; its sayings are worked out."""

    def __init__(self, sayings, number):
        self.sayings = sayings
        self.number = number
        # Of each place, the nearest first, all that it comes to by being given papers.
        self.ways = [_ways_of(raised_by(sayings[-1 - at], at + 1, 0)) for at in range(len(sayings))]


def _ways_of(saying):
    """All that a paper of this saying comes to by being given papers: tuples (their sayings, what is come to)."""
    wanted = []
    ways = [(wanted, saying)]
    end = saying
    while end is not None and end[0] == "all":
        wanted = [*wanted, end[1]]
        end = lowered_once(end[2])
        if end is not None:
            ways.append((wanted, end))
    return ways


class Seeker:
    """Seeks papers in a ground, and keeps what was found and what wasn't."""

    def __init__(self, ground, kernel):
        self._ground = ground
        self._kernel = kernel
        # By a room's number and a saying's text: the room with it more; the paper found, with its depth;
        # the greatest depth in which there is none.
        self._wider = {}
        self._found = {}
        self._missing = {}

    def paper_of(self, around, saying, depth):
        """A paper of the saying in the room, of this depth, or None."""
        key = (around.number, repr(saying))
        if key in self._found and self._found[key][0] <= depth:
            return self._found[key][1]
        if self._missing.get(key, 0) >= depth:
            return None
        paper = self._sought(around, saying, depth)
        if paper is None:
            self._missing[key] = depth
        else:
            self._found[key] = (depth, paper)
        return paper

    def _sought(self, around, saying, depth):
        """A paper of the saying, of a depth from 1 on, or None."""
        heads = self._heads_of(around, saying)
        for head, wanted in heads:
            if not wanted:
                return head
        if depth == 1:
            return None
        if saying[0] == "all":
            inner = self.paper_of(self._with_saying(around, saying[1]), saying[2], depth - 1)
            if inner is not None:
                return ("fun", saying[1], inner)
        for head, wanted in heads:
            papers = self._papers_of(around, wanted, depth - 1)
            if papers is not None:
                return given_all(head, papers)
        return None

    def _papers_of(self, around, sayings, depth):
        """A paper of each of the sayings, of this depth, or None."""
        papers = []
        for saying in sayings:
            paper = self.paper_of(around, saying, depth)
            if paper is None:
                return None
            papers.append(paper)
        return papers

    def _heads_of(self, around, saying):
        """The places and makers that come to the saying, each with the sayings of the papers that it wants."""
        heads = []
        for at, ways in enumerate(around.ways):
            for wanted, end in ways:
                if end == saying:
                    heads.append((("at", at), wanted))
        thing = thing_given(self._ground, saying)
        if thing is not None:
            row, bounds = thing
            for number in range(len(row[4])):
                maker = given_all(("maker", row[1], number), bounds)
                for wanted, end in _ways_of(self._kernel.saying_in(around.sayings, maker)):
                    if end == saying:
                        heads.append((maker, wanted))
        return heads

    def _with_saying(self, around, saying):
        """The room with a saying more."""
        key = (around.number, repr(saying))
        if key not in self._wider:
            self._wider[key] = Around([*around.sayings, saying], len(self._wider) + 1)
        return self._wider[key]
