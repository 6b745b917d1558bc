"""A shelf of settled sayings, which knows what leans on what."""

from kernelpapers.errors import Doubled, Leant, NoFit, NoGround, NoName, NoRow, NotOnShelf, Stale, Unsound
from kernelpapers.grounds import MOST_ROWS, ground_of
from kernelpapers.kernel import fault_of_row
from kernelpapers.named import names_of, row_renamed, script_renamed, term_renamed
from kernelpapers.scripts import run, want_script
from kernelpapers.settled import is_taken, want_settled
from kernelpapers.terms import is_name, want_term
from kernelpapers.things import is_row, thing_saying
from kernelpapers.work import Work


class Shelf:
    """Rows in an order: told things, meanings, and sayings with papers."""

    def __init__(self):
        # Of each: the row as it stands in a ground, a saying's paper, its script, and whether it is stale.
        self._rows = []

    def tell(self, row):
        """A thing is told by its row; tells how many rows there are."""
        if not is_row(row) or row[0] != "thing":
            raise NoRow(row)
        self._want_new(row[1])
        self._want_space()
        self._want_sound(self.ground(), row)
        return self._put_behind(row, None, None)

    def mean(self, name, saying, term):
        """A name means a term of a saying; tells how many rows there are."""
        self._want_new_name(name)
        want_term(saying)
        want_term(term)
        want_settled(self.ground(), saying, term)
        return self._put_behind(("mean", name, saying, term), None, None)

    def settle(self, name, saying, paper):
        """A saying is settled by a paper; tells how many rows there are."""
        self._want_new_name(name)
        want_term(saying)
        want_term(paper)
        want_settled(self.ground(), saying, paper)
        return self._put_behind(("hold", name, saying), paper, None)

    def settle_by(self, name, saying, deeds):
        """A saying is settled by a script; tells how many rows there are."""
        self._want_new_name(name)
        want_term(saying)
        want_script(deeds)
        paper = _paper_by(self.ground(), saying, deeds)
        return self._put_behind(("hold", name, saying), paper, deeds)

    def _want_new_name(self, name):
        """Refuses what is no name, then one that is there already."""
        if not is_name(name):
            raise NoName(name)
        self._want_new(name)

    def _want_new(self, name):
        """Refuses a name that is there already."""
        if name in self.names():
            raise Doubled(name)

    def _want_space(self):
        """Refuses a row more than a ground may have."""
        many = len(self._rows) + 1
        if many > MOST_ROWS:
            raise NoGround(many)

    def _want_sound(self, ground, row):
        """Refuses a thing that isn't sound in a ground."""
        fault = fault_of_row(ground, row)
        if fault is not None:
            where, spot, why = fault
            raise Unsound(len(self._rows), where, spot, why)

    def _put_behind(self, row, paper, script):
        """Puts a row, which was looked at, behind all others, where there is space; tells how many there are."""
        self._want_space()
        self._rows.append((row, paper, script, False))
        return len(self._rows)

    def names(self):
        """The names of all rows, in order."""
        return [entry[0][1] for entry in self._rows]

    def stale(self):
        """The names of the stale rows, in order."""
        return [entry[0][1] for entry in self._rows if entry[3]]

    def ground(self):
        """The ground of all rows that aren't stale."""
        return self._ground_of(len(self._rows))

    def _ground_of(self, many):
        """The ground of so many rows from the first one on, of those that aren't stale."""
        return ground_of([entry[0] for entry in self._rows[:many] if not entry[3]])

    def _place_of(self, name):
        """The number of the row of a name; refuses what is no name on the shelf."""
        if is_name(name):
            for at, entry in enumerate(self._rows):
                if entry[0][1] == name:
                    return at
        raise NotOnShelf(name)

    def saying(self, name):
        """The saying of a name."""
        row = self._rows[self._place_of(name)][0]
        return thing_saying(row) if row[0] == "thing" else row[2]

    def paper(self, name):
        """The paper of a saying, the term of a meaning."""
        row, paper, _, _ = self._rows[self._place_of_papered(name)]
        return row[3] if row[0] == "mean" else paper

    def _place_of_papered(self, name):
        """The number of the row of a meaning or a saying; refuses another name."""
        at = self._place_of(name)
        if self._rows[at][0][0] == "thing":
            raise NotOnShelf(name)
        return at

    def script(self, name):
        """The script of a name, None where it has none."""
        return self._rows[self._place_of(name)][2]

    def leans(self, name):
        """The names of the rows on which a row leans, in order."""
        at = self._place_of(name)
        found = self._names_in(at)
        return [other for other in self.names()[:at] if other in found]

    def _names_in(self, at):
        """The names that stand in a row, a dict of True."""
        row, paper, script, _ = self._rows[at]
        return names_of(row, paper, script)

    def above(self, name):
        """The names of all that lean on a row, or on one that does, in order."""
        found = [name]
        for at in range(self._place_of(name) + 1, len(self._rows)):
            names = self._names_in(at)
            if any([other in names for other in found]):
                found.append(self._rows[at][0][1])
        return found[1:]

    def rename(self, name, other):
        """A row is renamed, everywhere where its name stands."""
        at = self._place_of(name)
        if not is_name(other):
            raise NoName(other)
        if other in self.names() and self._rows[at][0][1] != other:
            raise Doubled(other)
        self._rows = [_entry_renamed(entry, name, other) for entry in self._rows]

    def change(self, name, saying, paper):
        """A meaning or a saying is changed; tells the names of all above it, which are stale from then on."""
        at = self._place_of(name)
        row = self._rows[at][0]
        if row[0] == "thing":
            raise NoFit(name)
        want_term(saying)
        want_term(paper)
        want_settled(self._ground_of(at), saying, paper)
        if row[0] == "mean":
            self._rows[at] = (("mean", row[1], saying, paper), None, None, False)
        else:
            self._rows[at] = (("hold", row[1], saying), paper, None, False)
        names = self.above(name)
        self._rows = [(*entry[:3], entry[3] or entry[0][1] in names) for entry in self._rows]
        return names

    def renew(self, name):
        """A stale row is settled again, by its own script or as it is."""
        at = self._place_of(name)
        row, paper, script, is_stale = self._rows[at]
        if not is_stale:
            raise NoFit(name)
        stale = self.stale()
        names = [other for other in self.leans(name) if other in stale]
        if names:
            raise Stale(names)
        ground = self._ground_of(at)
        if row[0] == "thing":
            self._want_sound(ground, row)
        elif script is not None:
            paper = _paper_by(ground, row[2], script)
        else:
            want_settled(ground, row[2], row[3] if row[0] == "mean" else paper)
        self._rows[at] = (row, paper, script, False)

    def out(self, name):
        """A row is taken out, on which no other one leans."""
        place = self._place_of(name)
        names = [self._rows[at][0][1] for at in range(place + 1, len(self._rows)) if name in self._names_in(at)]
        if names:
            raise Leant(names)
        del self._rows[place]

    def good(self):
        """Whether both checkers take each row that isn't stale."""
        for at, (row, paper, _, is_stale) in enumerate(self._rows):
            if not is_stale and not is_taken(self._ground_of(at), row, paper):
                return False
        return True

    def ground_ahead(self, name):
        """The ground of the rows ahead of a row that aren't stale."""
        return self._ground_of(self._place_of(name))

    def is_meaning(self, name):
        """Whether a row is a meaning."""
        return self._rows[self._place_of(name)][0][0] == "mean"

    def set_paper(self, name, paper):
        """Another paper stands for a saying's, at which nobody looks; it has no script any more."""
        at = self._place_of_papered(name)
        row, _, _, is_stale = self._rows[at]
        if row[0] == "mean":
            raise NoFit(name)
        want_term(paper)
        self._rows[at] = (row, paper, None, is_stale)

    def twin(self):
        """Another shelf just as it is."""
        other = Shelf()
        other._rows = list(self._rows)
        return other

    def __len__(self):
        return len(self._rows)

    def __eq__(self, other):
        return isinstance(other, Shelf) and self._rows == other._rows


def _paper_by(ground, saying, deeds):
    """The paper that a script makes of a saying, by both checkers; refused with Open where it leaves something."""
    work = Work(ground, saying)
    run(work, 0, deeds)
    paper = work.paper()
    want_settled(ground, saying, paper)
    return paper


def _entry_renamed(entry, elder, other):
    """A row of a shelf, and all that is kept with it, with the other name wherever the elder one stands."""
    row, paper, script, is_stale = entry
    paper = None if paper is None else term_renamed(paper, elder, other)
    script = None if script is None else script_renamed(script, elder, other)
    return row_renamed(row, elder, other), paper, script, is_stale
