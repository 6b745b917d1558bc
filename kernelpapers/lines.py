"""Lines of the desk parted into what they tell. Terms are still words here, for who reads them knows the room."""

from kernelpapers.errors import NoLine
from kernelpapers.listing import rows_of_lines
from kernelpapers.terms import is_name
from kernelpapers.things import is_row
from kernelpapers.wording import FEW_FIGURES, number_of, words_of

# What stands behind the first word of a line: N a name, K a number, T a term, all else itself.
LINES = {
    "mean": ("N", ":", "T", "=", "T"), "settle": ("N", ":", "T", "=", "T"), "change": ("N", ":", "T", "=", "T"),
    "rename": ("N", "N"), "renew": ("N",), "out": ("N",), "short": ("N",),
    "goal": ("N", ":", "T"), "undo": ("K",), "close": (),
    "rows": (), "stale": (), "leans": ("N",), "above": ("N",), "saying": ("N",), "paper": ("N",),
    "what": ("T",), "work": ("T",), "goals": (), "good": (),
}
DEEDS = {
    "bring": (), "give": ("T",), "split": ("K",), "steps": (), "turn": ("T",), "cut": ("T",), "put": ("T",),
    "seek": ("K",),
}


def line_parted(line):
    """The first word of a line, and the list of what it tells; refuses what is no line."""
    if not isinstance(line, str) or "\n" in line:
        raise NoLine(line)
    words = words_of(line)
    told = _told_of(words[0], words[1:]) if words else None
    if told is None:
        raise NoLine(line)
    return words[0], told


def _told_of(word, words):
    """What the words behind the first one tell, a list; None where the line is none."""
    if word == "tell":
        return _thing_of(words)
    if word == "do":
        return _deed_of(words)
    return _parted(words, LINES[word]) if word in LINES else None


def _parted(words, form):
    """The names, numbers and terms' words that stand as a form has them, a list; None where they don't."""
    told = []
    rest = words
    for number, sign in enumerate(form):
        if sign == "T":
            # A term goes on to the end, or to the first sign that is to part it from another one.
            end = len(rest)
            if number + 1 < len(form) and form[number + 1] in rest:
                end = rest.index(form[number + 1])
            told.append(rest[:end])
            rest = rest[end:]
            continue
        if not rest or not _stands(rest[0], sign):
            return None
        if sign == "N":
            told.append(rest[0])
        elif sign == "K":
            told.append(number_of(rest[0], FEW_FIGURES))
        rest = rest[1:]
    return None if rest else told


def _stands(word, sign):
    """Whether a word is such as a form has there."""
    if sign == "N":
        return is_name(word)
    if sign == "K":
        return number_of(word, FEW_FIGURES) is not None
    return word == sign


def _deed_of(words):
    """A hole's number, a deed's word and what the deed tells, in one list; None where they are none."""
    hole = _parted(words[:1], ("K",))
    if hole is None or len(words) < 2:
        return None
    word = words[1]
    if word in ("use", "make"):
        told = _given_of(word, words[2:])
    else:
        told = _parted(words[2:], DEEDS[word]) if word in DEEDS else None
    return None if told is None else [*hole, word, *told]


def _given_of(word, words):
    """What a use or a make tells: its term's words or its number, then a list of words for each thing that is given."""
    given = parted_at(words, ";")
    first = _parted(given[0], ("T",) if word == "use" else ("K",))
    return None if first is None else [*first, *given[1:]]


def parted_at(words, sign):
    """The lists of words between the signs."""
    parts = [[]]
    for word in words:
        if word == sign:
            parts.append([])
        else:
            parts[-1].append(word)
    return parts


def _thing_of(words):
    """A list of the row of the one thing that is told, or None."""
    try:
        rows = rows_of_lines(parted_at(words, "|"))
    except NoLine:
        return None
    if len(rows) != 1 or rows[0][0] != "thing" or not is_row(rows[0]):
        return None
    return rows
