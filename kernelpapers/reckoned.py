"""Terms that come to worths, and worths told as terms again. Nothing here goes by steps.

A worth is a pair: its head, and a tuple of all that the head is given (each a Later). Its head is
    ("kind", h); ("thing", n); ("maker", n, k); ("eater", n, h); ("name", n) of a hold;
    ("at", k): the place k of the room, here counted from the outermost one inwards;
    ("all", a, b, around) or ("fun", a, b, around): a is a Later, b the term behind the binder;
    ("same", a, x, y), ("self", a, x), ("put", p, e, x) of Laters, the e of a put being no self.
A fun is given nothing: it takes what it is given.
"""

from kernelpapers.forms import fun_of, given_all, places


class Later:
    """A term among the Laters that its places mean, the last one the place 0; its worth is found when it is asked."""

    def __init__(self, of, around, worth=None):
        self.of = of
        self.around = around
        self.worth = worth


def later_of(term, around):
    """A Later of a term; the very one that it means where the term is a place."""
    if term[0] == "at" and term[1] < len(around):
        return around[-1 - term[1]]
    return Later(term, around)


def later_place(number):
    """A Later of a place, counted from the outermost one inwards."""
    return Later(None, (), (("at", number), ()))


class Reckoner:
    """Finds the worths of terms in a sound ground.

    What is still to be done waits in a list of tuples, a word and what it needs, the last one to be
    done first; so however deep a term goes, no function here calls itself.
    """

    def __init__(self, ground):
        self._ground = ground
        self._meanings = {}

    def worth_of(self, later):
        """The worth of a Later, which it has from then on."""
        waiting = [("want", later)]
        worth = None
        while waiting:
            task = waiting.pop()
            word = task[0]
            if word == "want":
                worth = _wanted(waiting, task[1])
            elif word == "look":
                worth = self._looked_at(waiting, task[1], task[2])
            elif word == "give":
                worth = self._given(waiting, worth, task[1])
            elif word == "eat":
                worth = self._eaten(waiting, task[1], task[2], worth)
            elif word == "put":
                worth = _put(waiting, task[1], worth)
            else:
                task[1].worth = worth
        return worth

    def _looked_at(self, waiting, term, around):
        """The worth of a term, or None where it waits for what is put behind."""
        word = term[0]
        if word == "app":
            waiting.append(("give", later_of(term[2], around)))
            waiting.append(("look", term[1], around))
            return None
        if word == "at":
            return _looked_up(waiting, term[1], around)
        if word in ("all", "fun"):
            return (word, later_of(term[1], around), term[2], around), ()
        if word == "name":
            return self._meant(waiting, term)
        if word in ("same", "self", "put"):
            head = (word, *[later_of(part, around) for part in term[1:]])
            if word != "put":
                return head, ()
            waiting.append(("put", head))
            waiting.append(("want", head[2]))
            return None
        return term, ()

    def _meant(self, waiting, term):
        """The worth of a name: of a hold it is itself, of a meaning that of its term, for which it waits."""
        name = term[1]
        if name not in self._meanings:
            row = self._ground.row_of(name, "mean")
            self._meanings[name] = None if row is None else Later(row[3], ())
        if self._meanings[name] is None:
            return term, ()
        waiting.append(("want", self._meanings[name]))
        return None

    def _given(self, waiting, worth, later):
        """The worth of a worth given a Later, or None where it waits for what is put behind."""
        head, given = worth
        if head[0] == "fun":
            waiting.append(("look", head[2], (*head[3], later)))
            return None
        given = (*given, later)
        if head[0] == "eater":
            row = self._ground.row_of(head[1], "thing")
            if row is not None and len(given) == len(row[3]) + len(row[4]) + 2:
                waiting.append(("eat", head, given))
                waiting.append(("want", later))
                return None
        return head, given

    def _eaten(self, waiting, head, given, last):
        """The worth of an eater given just enough, of which the last one has this worth."""
        row = self._ground.row_of(head[1], "thing")
        made, some = last
        if made[0] != "maker" or made[1] != head[1] or made[2] >= len(row[4]):
            return head, given
        bounds = len(row[3])
        arguments = some[bounds:]
        if len(some) != bounds + len(row[4][made[2]]):
            return head, given
        # What is given first is put last.
        for argument, between in reversed(self._ground.owned(row, made[2])):
            waiting.append(("give", _told_of_own(head, given, bounds, arguments, argument, between)))
        for later in reversed(arguments):
            waiting.append(("give", later))
        waiting.append(("want", given[bounds + 1 + made[2]]))
        return None

    def term_of(self, later, depth):
        """The term of a Later, worked out, in a room of so many."""
        made = []
        waiting = [("tell", later, depth)]
        while waiting:
            word, thing, number = waiting.pop()
            if word == "tell":
                head, given = self.worth_of(thing)
                for one in reversed(given):
                    waiting.append(("make", "app", 2))
                    waiting.append(("tell", one, number))
                _tell_head(made, waiting, head, number)
            else:
                news = made[-number:]
                del made[-number:]
                made.append((thing, *news))
        return made[0]


def _wanted(waiting, later):
    """The worth of a Later, or None where it waits to be found."""
    if later.worth is None:
        waiting.append(("keep", later))
        waiting.append(("look", later.of, later.around))
    return later.worth


def _looked_up(waiting, number, around):
    """The worth of a place, or None where it waits for the Later that is meant."""
    if number < len(around):
        waiting.append(("want", around[-1 - number]))
        return None
    # It means nothing, as no place of a checked term does; it is told as it was.
    return ("at", len(around) - 1 - number), ()


def _put(waiting, head, settled):
    """The worth of a put, whose second part has this worth."""
    if settled[0][0] == "self" and not settled[1]:
        waiting.append(("want", head[3]))
        return None
    return head, ()


def _told_of_own(head, given, bounds, arguments, argument, between):
    """What an eater, given all but the last, tells of an own argument, behind the sayings between."""
    room = (*given[:bounds], *arguments[:argument])
    around = (*given[:-1], arguments[argument], *room)
    inward = len(between) + len(room)
    own = given_all(("at", inward), places(len(between), 0))
    eater = given_all(head, places(len(given) - 1, inward + 1))
    return Later(fun_of(between, ("app", eater, own)), around)


def _tell_head(made, waiting, head, depth):
    """Puts the term of a worth's head behind what is made, or lets it wait for its parts."""
    word = head[0]
    if word == "at":
        made.append(("at", depth - 1 - head[1]))
    elif word in ("all", "fun"):
        waiting.append(("make", word, 2))
        waiting.append(("tell", Later(head[2], (*head[3], later_place(depth))), depth + 1))
        waiting.append(("tell", head[1], depth))
    elif word in ("same", "self", "put"):
        waiting.append(("make", word, len(head) - 1))
        for later in reversed(head[1:]):
            waiting.append(("tell", later, depth))
    else:
        made.append(head)
