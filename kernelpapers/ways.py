"""The told way of a term: by the step at the least spot, again and again. Who calls has looked at what is handed in."""

from kernelpapers.errors import Tired
from kernelpapers.forms import PARTED
from kernelpapers.rules import become, rule_of

# An eater is given ten terms at the most (three bounds, one, five makers and one more), a maker seven; so a step
# lets no term go that stands further outwards.
MOST_GIVEN = 10
# Every checked term comes to an end. Where a ground isn't sound, a name may mean itself, and this ends it.
MOST_INWARD = 100000


class Walk:
    """A term that goes on by its told way.

    What stands at spots less than that of the part at hand has no steps any more, so nothing but the
    parts around it are looked at again when it has gone by a step.
    """

    def __init__(self, ground, term, way=None):
        """The spots of its steps are put behind the way, where there is one."""
        self._ground = ground
        self._part = term
        # From without inwards: a term, where in it the part at hand stands, and how many steps were gone before.
        self._around = []
        self._gone = 0
        self._way = way

    def ended(self, most):
        """The term worked out, or None where it isn't so behind so many steps."""
        while True:
            rule = rule_of(self._ground, self._part)
            if rule is not None:
                if self._gone == most:
                    return None
                self._go(rule)
            elif self._part[0] in PARTED:
                self._around.append((self._part, 1, self._gone))
                self._part = self._part[1]
            elif not self._goes_on():
                return self._part

    def _go(self, rule):
        """Goes by a step at the part at hand, then out to the outermost term that goes by that."""
        if self._way is not None:
            self._way.append(tuple([place[1] - 1 for place in self._around]))
        self._gone += 1
        self._part = become(self._ground, self._part, rule)
        out = 0
        part = outer = self._part
        for up in range(1, min(MOST_GIVEN, len(self._around)) + 1):
            term, at, _ = self._around[-up]
            if term[0] not in ("app", "put"):
                break
            part = (*term[:at], part, *term[at + 1:])
            if rule_of(self._ground, part) is not None:
                out, outer = up, part
            if at != 1:
                break
        del self._around[len(self._around) - out:]
        self._part = outer

    def _goes_on(self):
        """Whether there is a part behind the part at hand, which has no steps; it is at hand then, else the whole."""
        while self._around:
            term, at, gone = self._around.pop()
            # What had no step stays the very thing, so that equal terms are soon known as such.
            if self._gone > gone:
                term = (*term[:at], self._part, *term[at + 1:])
            if at + 1 < len(term):
                self._around.append((term, at + 1, self._gone))
                self._part = term[at + 1]
                return True
            self._part = term
        return False


def gone_within(ground, term, most):
    """The spots of the told way of a term and the term worked out; refused where there are more steps than most."""
    way = []
    end = Walk(ground, term, way).ended(most)
    if end is None:
        raise Tired(most)
    return way, end


def worked_within(ground, term, most):
    """The term worked out; refused where it isn't so behind so many steps."""
    end = Walk(ground, term).ended(most)
    if end is None:
        raise Tired(most)
    return end


def worked_out(ground, term):
    """The term worked out, of one that comes to an end."""
    return worked_within(ground, term, MOST_INWARD)
