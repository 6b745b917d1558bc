"""A desk that is told lines, and answers each."""

from kernelpapers.errors import Doubled, NoBack
from kernelpapers.lines import line_parted
from kernelpapers.reading import read_words
from kernelpapers.sayings import Kernel
from kernelpapers.scripts import run
from kernelpapers.shelf import Shelf
from kernelpapers.short import shorten
from kernelpapers.showing import shown
from kernelpapers.work import Work

OF_WORK = ("do", "undo", "close", "goals")
CHANGES = ("tell", "mean", "settle", "rename", "change", "renew", "out", "short")


class Desk:
    """A shelf, and perhaps a work that is begun for a name."""

    def __init__(self):
        self._shelf = Shelf()
        self._work = None
        # The name and the saying for which the work is begun.
        self._begun = None

    def shelf(self):
        """A twin of the shelf."""
        return self._shelf.twin()

    def work(self):
        """A twin of the work, or None."""
        return None if self._work is None else self._work.twin()

    def say(self, line):
        """Does what a line tells, and answers it by a text."""
        word, told = line_parted(line)
        if word in OF_WORK:
            if self._work is None:
                raise NoBack(line)
            return self._of_work(word, told)
        if word == "goal":
            return self._begin(told[0], _read(told[1]))
        if word in CHANGES:
            return self._change(word, told)
        return self._answer(word, told)

    def _change(self, word, told):
        """Changes the shelf."""
        shelf = self._shelf
        if word == "tell":
            return str(shelf.tell(told[0]))
        if word == "mean":
            return str(shelf.mean(told[0], _read(told[1]), _read(told[2])))
        if word == "settle":
            return str(shelf.settle(told[0], _read(told[1]), _read(told[2])))
        if word == "change":
            return _list_told(shelf.change(told[0], _read(told[1]), _read(told[2])))
        if word == "short":
            return str(shorten(shelf, told[0]))
        if word == "out":
            shelf.out(told[0])
            return str(len(shelf))
        if word == "rename":
            shelf.rename(told[0], told[1])
        else:
            shelf.renew(told[0])
        return "ok"

    def _begin(self, name, saying):
        """Begins a work for a name and a saying; the elder one is gone."""
        if name in self._shelf.names():
            raise Doubled(name)
        self._work = Work(self._shelf.ground(), saying)
        self._begun = (name, saying)
        return "goal 0"

    def _of_work(self, word, told):
        """Goes on with the work, or asks of it."""
        if word == "goals":
            return self._goals_told()
        if word == "undo":
            return _list_told(self._work.undo(told[0]))
        if word == "close":
            return self._close()
        return _list_told(self._do(told[0], told[1], told[2:]))

    def _goals_told(self):
        """The open holes, each with the saying of its goal."""
        goals = []
        for hole in self._work.holes():
            room, saying = self._work.goal(hole)
            goals.append(f"{hole} : {shown(saying, len(room))}")
        return " | ".join(goals) if goals else "none"

    def _do(self, hole, word, told):
        """Does a deed at a hole; tells the holes that it leaves."""
        room, _ = self._work.goal(hole)
        return run(self._work, hole, _deed_of(word, told, len(room)))

    def _close(self):
        """Settles the work's saying by its paper on the shelf; the work is gone."""
        name, saying = self._begun
        many = self._shelf.settle(name, saying, self._work.paper())
        self._work = None
        self._begun = None
        return str(many)

    def _answer(self, word, told):
        """Asks, and changes nothing."""
        shelf = self._shelf
        if word == "rows":
            return _list_told(shelf.names())
        if word == "stale":
            return _list_told(shelf.stale())
        if word == "leans":
            return _list_told(shelf.leans(told[0]))
        if word == "above":
            return _list_told(shelf.above(told[0]))
        if word == "saying":
            return shown(shelf.saying(told[0]), 0)
        if word == "paper":
            return shown(shelf.paper(told[0]), 0)
        if word == "good":
            return "yes" if shelf.good() else "no"
        return self._tell_of(word, _read(told[0]))

    def _tell_of(self, word, term):
        """The saying of a term in the shelf's ground, or the term worked out there."""
        kernel = Kernel(self._shelf.ground())
        saying = kernel.saying_in([], term)
        return shown(saying if word == "what" else kernel.worked(term), 0)


def _read(words):
    """The term of words in no room."""
    return read_words(words, 0)


def _deed_of(word, told, names):
    """What a line tells to be done, in a room of so many names; it may be too much for a deed."""
    if word in ("use", "make"):
        first = read_words(told[0], names) if word == "use" else told[0]
        some = [None if words == ["?"] else read_words(words, names) for words in told[1:]]
        return (word, first, tuple(some))
    if told and isinstance(told[0], list):
        return (word, read_words(told[0], names))
    return (word, *told)


def _list_told(things):
    """The names or numbers of a list, with a blank between any two."""
    return " ".join([str(thing) for thing in things]) if things else "none"
