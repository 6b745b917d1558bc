"""Rows of grounds told as lines of words, and read from them."""

from kernelpapers.errors import NoFit, NoLine, NoSign
from kernelpapers.reading import read_words
from kernelpapers.showing import fits, shown
from kernelpapers.terms import is_name
from kernelpapers.wording import height_of

# The lines behind which a line of this word can stand; the others can stand behind any.
BEHIND = {"bound": ("thing", "bound"), "maker": ("thing", "bound", "maker", "arg"), "arg": ("maker", "arg")}


def lines_of_row(row):
    """The lines, texts, by which a row is shown."""
    if row[0] == "thing":
        return _lines_of_thing(row)
    line = f"{row[0]} {row[1]} : {_shown_if_fit(row[2], 0)}"
    if row[0] == "mean":
        line = f"{line} = {_shown_if_fit(row[3], 0)}"
    return [line]


def _lines_of_thing(row):
    """The lines by which a thing is shown."""
    lines = [f"thing {row[1]} {row[2]}"]
    for number, bound in enumerate(row[3]):
        lines.append(f"bound {_shown_if_fit(bound, number)}")
    for sayings in row[4]:
        lines.append("maker")
        for number, saying in enumerate(sayings):
            lines.append(f"arg {_shown_if_fit(saying, len(row[3]) + number)}")
    return lines


def _shown_if_fit(term, names):
    """The text of a term in a room of so many names; refused where it has other free places."""
    if not fits(term, names):
        raise NoFit(term)
    return shown(term, names)


def rows_of_lines(lines):
    """The rows of lines, each a list of words; refuses the number of the first line that can't stand where it does.

    The rows aren't looked at: a thing may have too many bounds, makers or arguments.
    """
    listing = Listing()
    for number, words in enumerate(lines):
        if not listing.takes(words):
            raise NoLine(number)
    return listing.told_rows()


class Listing:
    """Rows as they are read, line by line."""

    def __init__(self):
        # A thing is a list while it is read, its makers too.
        self._read = []
        self._last = ""

    def told_rows(self):
        """The rows, tuples."""
        return [_row_of(row) for row in self._read]

    def takes(self, words):
        """Whether a line can be read and stand behind those ahead; it is had then."""
        word = words[0] if words else ""
        if word in BEHIND and self._last not in BEHIND[word]:
            return False
        try:
            taken = self._takes_line(word, words)
        except NoSign:
            return False
        self._last = word
        return taken

    def _takes_line(self, word, words):
        """Whether a line is one of this word; refused where a term can't be read."""
        if word == "thing":
            return self._takes_thing(words)
        if word == "bound":
            bounds = self._read[-1][3]
            bounds.append(read_words(words[1:], len(bounds)))
            return True
        if word == "maker":
            self._read[-1][4].append([])
            return len(words) == 1
        if word == "arg":
            sayings = self._read[-1][4][-1]
            sayings.append(read_words(words[1:], len(self._read[-1][3]) + len(sayings)))
            return True
        return self._takes_told(word, words)

    def _takes_thing(self, words):
        """Whether a line begins a thing."""
        if len(words) != 3 or not is_name(words[1]) or height_of(words[2]) is None:
            return False
        self._read.append(["thing", words[1], height_of(words[2]), [], []])
        return True

    def _takes_told(self, word, words):
        """Whether a line is a meaning or what is believed."""
        if word not in ("mean", "hold") or len(words) < 3 or not is_name(words[1]) or words[2] != ":":
            return False
        if word == "hold":
            self._read.append((word, words[1], read_words(words[3:], 0)))
            return True
        if "=" not in words:
            return False
        at = words.index("=")
        self._read.append((word, words[1], read_words(words[3:at], 0), read_words(words[at + 1:], 0)))
        return True


def _row_of(row):
    """The row of what was read."""
    if row[0] != "thing":
        return row
    return ("thing", row[1], row[2], tuple(row[3]), tuple([tuple(sayings) for sayings in row[4]]))
