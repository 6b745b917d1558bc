"""Grounds: what is told of names. And what is refused as a ground or as a room."""

from kernelpapers.errors import Doubled, NoGround, NoRoom, NoRow, NoThing
from kernelpapers.forms import head_and_given
from kernelpapers.terms import is_name, is_term
from kernelpapers.things import is_row, own_arguments

MOST_ROWS = 24
MOST_IN_ROOM = 12


class Ground:
    """Rows in an order, all names unlike. It never changes."""

    def __init__(self, rows=None):
        self._rows = []
        self._by_name = {}
        # What a thing's own arguments are is asked at each step of an eater, and is long to find.
        self._owned = {}
        if rows is not None:
            self._take_all(rows)

    def _take_all(self, rows):
        """Takes the rows; refuses what can't be the rows of a ground."""
        if not isinstance(rows, (list, tuple)) or len(rows) > MOST_ROWS:
            raise NoGround(rows)
        for row in rows:
            self._want_new(row)
            self._take(row)

    def _want_new(self, row):
        """Refuses what is no row, then a row whose name is there already."""
        if not is_row(row):
            raise NoRow(row)
        if row[1] in self._by_name:
            raise Doubled(row[1])

    def _take(self, row):
        """Has a row, which was looked at, behind the others."""
        self._rows.append(row)
        self._by_name[row[1]] = row

    def rows(self):
        """The rows, in order."""
        return list(self._rows)

    def names(self):
        """The names of the rows, in order."""
        return [row[1] for row in self._rows]

    def has(self, thing):
        """Whether a thing is one of the names."""
        return is_name(thing) and thing in self._by_name

    def told(self, name):
        """The row of a name."""
        if not self.has(name):
            raise NoThing(name)
        return self._by_name[name]

    def with_row(self, row):
        """Another ground, with a row more behind."""
        self._want_new(row)
        rows = [*self._rows, row]
        if len(rows) > MOST_ROWS:
            raise NoGround(rows)
        return ground_of(rows)

    def row_of(self, name, word):
        """The row of this word of what surely is a name, or None where it isn't there."""
        row = self._by_name.get(name)
        return row if row is not None and row[0] == word else None

    def owned(self, row, maker):
        """The own arguments of a maker that is there, each with the list of the sayings between."""
        key = (row[1], maker)
        if key not in self._owned:
            self._owned[key] = own_arguments(row, maker)
        return self._owned[key]

    def __len__(self):
        return len(self._rows)

    def __eq__(self, other):
        return isinstance(other, Ground) and self._rows == other._rows


def ground_of(rows):
    """A ground of rows that were looked at before."""
    ground = Ground()
    for row in rows:
        ground._take(row)
    return ground


def thing_given(ground, term):
    """The row of a thing of the ground and its bounds, where a term is the thing given its bounds; else None."""
    head, given = head_and_given(term)
    row = ground.row_of(head[1], "thing") if head[0] == "thing" else None
    if row is None or len(given) != len(row[3]):
        return None
    return row, given


def want_ground(thing):
    """Refuses what is no ground."""
    if not isinstance(thing, Ground):
        raise NoGround(thing)


def want_room(thing):
    """Refuses what is no list or tuple of none to twelve terms."""
    if not isinstance(thing, (list, tuple)) or len(thing) > MOST_IN_ROOM:
        raise NoRoom(thing)
    if not all([is_term(term) for term in thing]):
        raise NoRoom(thing)
