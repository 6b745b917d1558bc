"""What each deed does at a goal. Who calls has looked at the ground, the room, the saying and the deed.

Each deed's function tells the goals that are left, tuples (room, saying), and a def that makes the deed's
paper of a list of theirs; or None where the deed doesn't fit.
"""

from kernelpapers.errors import NoFit, NoPaper
from kernelpapers.forms import fun_of, given_all, given_room, lowered_once, raised_by, sayings_and_end, stood_of
from kernelpapers.forms import turned, with_part
from kernelpapers.grounds import MOST_IN_ROOM, thing_given
from kernelpapers.terms import HIGHEST
from kernelpapers.things import step_saying


class Goal:
    """A goal at which a deed is done, and what the kernel says of the deed's terms there."""

    def __init__(self, ground, kernel, room, asked, terms):
        self.base = ground
        self.kernel = kernel
        self.room = tuple(room)
        self.worked_room = [kernel.worked(saying) for saying in room]
        # The saying as it stands, and worked out.
        self.asked = asked
        self.end = kernel.worked(asked)
        self.sayings = [self.saying_of_term(term) for term in terms]

    def within(self, sayings):
        """The goal's room with these sayings more."""
        return (*self.room, *sayings)

    def saying_of_term(self, term):
        """The saying of a term in the goal's room; refused where it has none."""
        return self.kernel.saying_in(self.worked_room, term)

    def saying_if_any(self, term):
        """The saying of a term in the goal's room, or None where it has none."""
        try:
            return self.saying_of_term(term)
        except NoPaper:
            return None


def done(ground, kernel, room, saying, deed):
    """The goals that a deed leaves and the def that makes its paper; refused where a term fails or it doesn't fit."""
    goal = Goal(ground, kernel, room, saying, terms_of_deed(deed))
    did = _did(goal, deed)
    if did is None:
        raise NoFit(deed)
    for left_room, _ in did[0]:
        if len(left_room) > MOST_IN_ROOM:
            raise NoFit(deed)
    return did


def terms_of_deed(deed):
    """The terms in a deed, in order."""
    word = deed[0]
    if word in ("give", "turn", "cut", "put"):
        return [deed[1]]
    if word == "use":
        return [deed[1], *[thing for thing in deed[2] if thing is not None]]
    if word == "make":
        return [thing for thing in deed[2] if thing is not None]
    return []


def _did(goal, deed):
    """What a deed does, or None where it doesn't fit."""
    word = deed[0]
    if word == "bring":
        return _brought(goal)
    if word == "give":
        return _used(goal, deed[1], goal.sayings[0], (), [])
    if word == "use":
        return _used(goal, deed[1], goal.sayings[0], deed[2], goal.sayings[1:])
    if word == "make":
        return _made(goal, deed[1], deed[2])
    if word == "split":
        return _split(goal, deed[1])
    if word == "steps":
        return [(goal.room, goal.end)], _first_of
    if word == "turn":
        return _turned(goal, deed[1])
    if word == "cut":
        return _cut(goal, deed[1])
    return _put(goal, deed[1])


def _first_of(papers):
    """The paper of the only goal that was left."""
    return papers[0]


def _brought(goal):
    """The first binder of the goal is brought into the room."""
    told = goal.asked if goal.asked[0] == "all" else goal.end
    if told[0] != "all":
        return None

    def paper(papers):
        return ("fun", told[1], papers[0])

    return [(goal.within([told[1]]), told[2])], paper


def _used(goal, head, saying, some, told):
    """The head, of this saying, is given some terms, of told sayings, and for each None the paper of a goal."""
    asked = []
    passed_terms = 0
    end = saying
    for thing in some:
        if end[0] != "all":
            return None
        if thing is None:
            asked.append((goal.room, end[1]))
            end = lowered_once(end[2])
            if end is None:
                return None
        elif told[passed_terms] != end[1]:
            return None
        else:
            passed_terms += 1
            end = goal.kernel.given(end[2], thing)
    if end != goal.end:
        return None

    def paper(papers):
        given = []
        used = 0
        for one in some:
            if one is None:
                used += 1
            given.append(papers[used - 1] if one is None else one)
        return given_all(head, given)

    return asked, paper


def _made(goal, number, some):
    """A maker of the thing that the goal is, used."""
    thing = thing_given(goal.base, goal.end)
    if thing is None or number >= len(thing[0][4]):
        return None
    maker = given_all(("maker", thing[0][1], number), thing[1])
    return _used(goal, maker, goal.saying_of_term(maker), some, goal.sayings)


def _split(goal, place):
    """A place that is of a told thing, told maker by maker."""
    if place >= len(goal.room):
        return None
    saying = raised_by(goal.worked_room[-1 - place], place + 1, 0)
    thing = thing_given(goal.base, saying)
    height = goal.kernel.kind_in(goal.worked_room, goal.end)
    if thing is None or height == HIGHEST:
        return None
    row, bounds = thing
    told = ("fun", saying, _behind_place(goal.end, place))
    if goal.saying_if_any(told) is None:
        return None
    left = [_goal_of_maker(goal, row, maker, [*bounds, told]) for maker in range(len(row[4]))]
    # The list that is left is the asker's own.
    sayings = [room[len(goal.room):] for room, _ in left]

    def paper(papers):
        steps = [fun_of(binders, inner) for binders, inner in zip(sayings, papers)]
        return given_all(("eater", row[1], height), [*bounds, told, *steps, ("at", place)])

    return left, paper


def _behind_place(term, place):
    """The term behind a binder more, which stands where the term had the place."""
    def turn(number, above):
        if number < above:
            return None
        return ("at", above if number - above == place else number + 1)

    return turned(term, turn)


def _goal_of_maker(goal, row, maker, others):
    """What a split leaves for a maker, the bounds and what is told of the thing being the others."""
    sayings, end = sayings_and_end(step_saying(row, maker, 0))
    told = [goal.kernel.worked(given_room(saying, others, at)) for at, saying in enumerate(sayings)]
    return goal.within(told), goal.kernel.worked(given_room(end, others, len(sayings)))


def _turned(goal, saying):
    """Another saying stands for the goal's, which is the same once worked out."""
    if goal.sayings[0][0] != "kind" or goal.kernel.worked(saying) != goal.end:
        return None
    return [(goal.room, saying)], _first_of


def _cut(goal, saying):
    """Another saying is settled first, and is at hand then."""
    if goal.sayings[0][0] != "kind":
        return None

    def paper(papers):
        return ("app", ("fun", saying, papers[1]), papers[0])

    return [(goal.room, saying), (goal.within([saying]), raised_by(goal.asked, 1, 0))], paper


def _put(goal, same):
    """One side of a same is put in the place of the other one."""
    sides = goal.sayings[0]
    if sides[0] != "same":
        return None
    _, saying, one, other = sides
    stood = stood_of(goal.end, other)
    if not stood:
        return None
    told = ("fun", saying, _with_place(goal.end, stood))
    of_told = goal.saying_if_any(told)
    if of_told is None or of_told[2][0] != "kind":
        return None

    def paper(papers):
        return ("put", told, same, papers[0])

    return [(goal.room, goal.kernel.worked(("app", told, one)))], paper


def _with_place(term, stood):
    """The term behind a binder more, which stands at the spots, each told with the binders above it."""
    made = raised_by(term, 1, 0)
    for spot, above in stood:
        made = with_part(made, spot, ("at", above))
    return made
