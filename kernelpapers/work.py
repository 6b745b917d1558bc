"""Works: goals closed by deeds, which are undone in any order."""

from kernelpapers.asked import want_goal
from kernelpapers.deeds import want_deed
from kernelpapers.doings import done
from kernelpapers.errors import NoHole, Open
from kernelpapers.grounds import want_ground, want_room
from kernelpapers.sayings import Kernel
from kernelpapers.terms import is_count, want_term


class Work:
    """Holes by numbers, each a goal that is open or filled by a deed."""

    def __init__(self, ground, saying, room=None):
        want_ground(ground)
        want_term(saying)
        if room is not None:
            want_room(room)
        around = [] if room is None else room
        want_goal(ground, around, saying)
        self._ground = ground
        self._kernel = Kernel(ground)
        self._first = (tuple(around), saying)
        # Of each hole its goal; of a filled one its deed, the holes left by that, and the def of its paper.
        self._goals = {0: self._first}
        self._filled = {}
        # The least number that no hole was given.
        self._number = 1

    def ground(self):
        """The ground in which it is done."""
        return self._ground

    def holes(self):
        """The open holes, as they stand."""
        found = []
        waiting = [0]
        while waiting:
            hole = waiting.pop()
            if hole in self._filled:
                waiting.extend(self._filled[hole][1][::-1])
            else:
                found.append(hole)
        return found

    def goal(self, hole):
        """The goal of an open hole: its room and its saying."""
        if not is_count(hole) or hole not in self._goals or hole in self._filled:
            raise NoHole(hole)
        room, saying = self._goals[hole]
        return list(room), saying

    def deed(self, hole):
        """The deed that filled a hole."""
        self._want_filled(hole)
        return self._filled[hole][0]

    def left(self, hole):
        """The holes that the deed left that filled a hole."""
        self._want_filled(hole)
        return list(self._filled[hole][1])

    def _want_filled(self, hole):
        """Refuses what is no filled hole."""
        if not is_count(hole) or hole not in self._filled:
            raise NoHole(hole)

    def filled(self):
        """All filled holes, each with its deed and the holes left by that."""
        return [(hole, self.deed(hole), self.left(hole)) for hole in sorted(self._filled)]

    def do(self, hole, deed):
        """Does a deed at an open hole; tells the holes that it leaves."""
        room, saying = self.goal(hole)
        want_deed(deed)
        goals, paper = done(self._ground, self._kernel, room, saying, deed)
        left = []
        for goal in goals:
            left.append(self._number)
            self._goals[self._number] = goal
            self._number += 1
        self._filled[hole] = (deed, left, paper)
        return list(left)

    def undo(self, hole):
        """Undoes what was done at a filled hole; tells the open holes then."""
        self._want_filled(hole)
        waiting = list(self._filled[hole][1])
        del self._filled[hole]
        while waiting:
            beneath = waiting.pop()
            if beneath in self._filled:
                waiting.extend(self._filled[beneath][1])
                del self._filled[beneath]
            del self._goals[beneath]
        return self.holes()

    def paper(self):
        """The paper, where no hole is open."""
        holes = self.holes()
        if holes:
            raise Open(holes)
        papers = {}
        # Holes have greater numbers than the one beneath which they stand; so their papers are there ahead of its own.
        for hole in sorted(self._filled, reverse=True):
            _, left, paper = self._filled[hole]
            papers[hole] = paper([papers[beneath] for beneath in left])
        return papers[0]

    def twin(self):
        """Another work just as it is."""
        room, saying = self._first
        other = Work(self._ground, saying, room)
        other.back_to(self.mark())
        return other

    def put_back(self, other):
        """Makes it just as a twin is; tells the open holes then."""
        self.back_to(other.mark())
        return self.holes()

    def mark(self):
        """All by which it can be made, once, as it is now."""
        return dict(self._goals), dict(self._filled), self._number

    def back_to(self, mark):
        """Makes it as it was at a mark, to which it isn't made again."""
        self._goals, self._filled, self._number = mark

    def __len__(self):
        return len(self.holes())

    def __eq__(self, other):
        if not isinstance(other, Work) or self._ground != other._ground or self._first != other._first:
            return False
        return self.filled() == other.filled()
