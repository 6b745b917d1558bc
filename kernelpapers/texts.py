"""Terms and grounds as texts."""

from kernelpapers.errors import NoFit, NoText
from kernelpapers.grounds import Ground, want_ground
from kernelpapers.listing import lines_of_row, rows_of_lines
from kernelpapers.reading import read_words
from kernelpapers.showing import fits, shown
from kernelpapers.terms import want_term, want_whole
from kernelpapers.wording import words_of

MOST_NAMES = 100


def show(term, names=0):
    """The text of a term in a room of so many names."""
    want_term(term)
    want_whole(names, 0, MOST_NAMES)
    if not fits(term, names):
        raise NoFit(term)
    return shown(term, names)


def read(text, names=0):
    """The term of a text in a room of so many names."""
    _want_text(text)
    want_whole(names, 0, MOST_NAMES)
    return read_words(words_of(text), names)


def _want_text(thing):
    """Refuses what is no text."""
    if not isinstance(thing, str):
        raise NoText(thing)


def show_ground(ground):
    """The text of a ground, line by line."""
    want_ground(ground)
    lines = []
    for row in ground.rows():
        lines.extend(lines_of_row(row))
    return "\n".join(lines)


def read_ground(text):
    """The ground of a text."""
    _want_text(text)
    if text == "":
        return Ground()
    return Ground(rows_of_lines([words_of(line) for line in text.split("\n")]))
