"""The three families of refusals, and the refusals."""


class PaperError(ValueError):
    """Something isn't what is wanted."""


class NotThere(KeyError):
    """Something isn't there."""


class NoneLeft(LookupError):
    """There is nothing to be told."""


class NoTerm(PaperError):
    """What was found is no term."""

    def __init__(self, found):
        PaperError.__init__(self, "what was found is no term")
        self.found = found


class NoSpot(PaperError):
    """What was found is no spot of the term."""

    def __init__(self, found):
        PaperError.__init__(self, "what was found is no spot of the term")
        self.found = found


class NoNumber(PaperError):
    """What was found is no whole number of those that are wanted."""

    def __init__(self, found):
        PaperError.__init__(self, "what was found is no whole number of those that are wanted")
        self.found = found


class NoName(PaperError):
    """What was found is no name."""

    def __init__(self, found):
        PaperError.__init__(self, "what was found is no name")
        self.found = found


class NoGround(PaperError):
    """What was found is no ground, or can't be made one."""

    def __init__(self, found):
        PaperError.__init__(self, "what was found is no ground, or can't be made one")
        self.found = found


class NoRow(PaperError):
    """What was found is no row, or none of the sort that is wanted."""

    def __init__(self, found):
        PaperError.__init__(self, "what was found is no row, or none of the sort that is wanted")
        self.found = found


class Doubled(PaperError):
    """The name that was found is there already."""

    def __init__(self, found):
        PaperError.__init__(self, "the name that was found is there already")
        self.found = found


class NoRoom(PaperError):
    """What was found is no room, or none that is sound."""

    def __init__(self, found):
        PaperError.__init__(self, "what was found is no room, or none that is sound")
        self.found = found


class NoStep(PaperError):
    """What was found is no spot at which the term goes by a step."""

    def __init__(self, found):
        PaperError.__init__(self, "what was found is no spot at which the term goes by a step")
        self.found = found


class Tired(PaperError):
    """The term isn't worked out behind so many steps."""

    def __init__(self, most):
        PaperError.__init__(self, "the term isn't worked out behind so many steps")
        self.most = most


class NoPaper(PaperError):
    """The term fails at the spot, for the reason that the word tells."""

    def __init__(self, spot, why):
        PaperError.__init__(self, "the term fails at the spot, for the reason that the word tells")
        self.spot = spot
        self.why = why


class Unsound(PaperError):
    """The row of this number fails there, at the spot, for that reason."""

    def __init__(self, row, where, spot, why):
        PaperError.__init__(self, "the row of this number fails there, at the spot, for that reason")
        self.row = row
        self.where = where
        self.spot = spot
        self.why = why


class NoText(PaperError):
    """What was found is no text."""

    def __init__(self, found):
        PaperError.__init__(self, "what was found is no text")
        self.found = found


class NoSign(PaperError):
    """The text can't be read on from the word of this number."""

    def __init__(self, at):
        PaperError.__init__(self, "the text can't be read on from the word of this number")
        self.at = at


class NoDeed(PaperError):
    """What was found is no deed, or no script."""

    def __init__(self, found):
        PaperError.__init__(self, "what was found is no deed, or no script")
        self.found = found


class NoFit(PaperError):
    """What was found doesn't fit here."""

    def __init__(self, found):
        PaperError.__init__(self, "what was found doesn't fit here")
        self.found = found


class Leant(PaperError):
    """The names that were found lean on what is to go."""

    def __init__(self, found):
        PaperError.__init__(self, "the names that were found lean on what is to go")
        self.found = found


class NoLine(PaperError):
    """What was found is no line that can be read."""

    def __init__(self, found):
        PaperError.__init__(self, "what was found is no line that can be read")
        self.found = found


class Stale(PaperError):
    """The names that were found are stale."""

    def __init__(self, found):
        PaperError.__init__(self, "the names that were found are stale")
        self.found = found


class NoBack(PaperError):
    """There is no work for the line that was found."""

    def __init__(self, found):
        PaperError.__init__(self, "there is no work for the line that was found")
        self.found = found


class NoThing(NotThere):
    """The ground has no row of the name that was found."""

    def __init__(self, found):
        NotThere.__init__(self, "the ground has no row of the name that was found")
        self.found = found


class NoHole(NotThere):
    """The work has no such hole as was found."""

    def __init__(self, found):
        NotThere.__init__(self, "the work has no such hole as was found")
        self.found = found


class NotOnShelf(NotThere):
    """The shelf has no row of the name that was found."""

    def __init__(self, found):
        NotThere.__init__(self, "the shelf has no row of the name that was found")
        self.found = found


class Open(NoneLeft):
    """The holes that were found are open."""

    def __init__(self, found):
        NoneLeft.__init__(self, "the holes that were found are open")
        self.found = found


class NoneGoes(NoneLeft):
    """Nothing of what was found goes."""

    def __init__(self, found):
        NoneLeft.__init__(self, "nothing of what was found goes")
        self.found = found
