"""What is a whole number, a name, a term, a spot; terms and their parts, places and heads."""

from kernelpapers.errors import NoNumber, NoSpot, NoTerm
from kernelpapers.forms import PARTED, all_spots, free_places, given_all, given_at, head_and_given
from kernelpapers.forms import inner_terms, lowered_once, parts_of, raised_by, reached, with_part

LETTERS = "abcdefghijklmnopqrstuvwxyz"
MOST_LETTERS = 8
# A term's text begins with these, so a name that is one of them could not be told from it.
NO_NAMES = ("all", "fun", "same", "self", "put")
HIGHEST = 5
MOST_NUMBER = 999


def is_whole(thing, low, high):
    """Whether a thing is a whole number from low to high."""
    return is_count(thing, low) and thing <= high


def is_count(thing, low=0):
    """Whether a thing is a whole number from low on."""
    # Python takes True and False for integers; the document does not.
    return isinstance(thing, int) and not isinstance(thing, bool) and thing >= low


def is_name(thing):
    """Whether a thing is a name."""
    if not isinstance(thing, str) or thing in NO_NAMES:
        return False
    return 1 <= len(thing) <= MOST_LETTERS and all([letter in LETTERS for letter in thing])


def is_term(thing):
    """Whether a thing is a term."""
    waiting = [thing]
    while waiting:
        part = waiting.pop()
        if not isinstance(part, tuple) or not part or not isinstance(part[0], str):
            return False
        if part[0] not in PARTED:
            if not _is_leaf(part):
                return False
        elif len(part) != PARTED[part[0]] + 1:
            return False
        else:
            waiting.extend(part[1:])
    return True


def _is_leaf(thing):
    """Whether a tuple that begins with a text is a term without parts."""
    word = thing[0]
    if len(thing) == 2:
        if word == "at":
            return is_count(thing[1])
        if word == "kind":
            return is_whole(thing[1], 0, HIGHEST)
        return word in ("name", "thing") and is_name(thing[1])
    if len(thing) != 3 or not is_name(thing[1]):
        return False
    if word == "maker":
        return is_count(thing[2])
    return word == "eater" and is_whole(thing[2], 0, HIGHEST)


def is_spot(thing):
    """Whether a thing is a spot."""
    return isinstance(thing, tuple) and all([is_count(at) for at in thing])


def want_term(thing):
    """Refuses what is no term."""
    if not is_term(thing):
        raise NoTerm(thing)


def want_whole(thing, low, high):
    """Refuses what is no whole number from low to high."""
    if not is_whole(thing, low, high):
        raise NoNumber(thing)


def _place_of(term, spot):
    """The part at a spot and the binders above it; refuses what is no term, no spot of it."""
    want_term(term)
    place = reached(term, spot) if is_spot(spot) else None
    if place is None:
        raise NoSpot(spot)
    return place


def parts(term):
    """The terms straight in a term, in their order."""
    want_term(term)
    return list(parts_of(term))


def part_at(term, spot):
    """The part to which a spot leads."""
    return _place_of(term, spot)[0]


def binders_at(term, spot):
    """How many binders stand above a spot."""
    return _place_of(term, spot)[1]


def spots(term):
    """All spots of a term, in order."""
    want_term(term)
    return all_spots(term)


def changed(term, spot, other):
    """The term with another one, as it stands, in the place of the part at the spot."""
    _place_of(term, spot)
    want_term(other)
    return with_part(term, spot, other)


def size(term):
    """How many terms are in a term, itself counted."""
    want_term(term)
    return len(inner_terms(term))


def free(term):
    """The free places of a term, rising, each once."""
    want_term(term)
    return free_places(term)


def raised(term, by=1, start=0):
    """The term with each free place from the start on greater by a number."""
    want_term(term)
    want_whole(by, 0, MOST_NUMBER)
    want_whole(start, 0, MOST_NUMBER)
    return raised_by(term, by, start)


def giving(term, other, number=0):
    """The term given another one in the place of its free place of this number."""
    want_term(term)
    want_term(other)
    want_whole(number, 0, MOST_NUMBER)
    return given_at(term, other, number)


def lowered(term):
    """The term with each free place one less, or None where 0 is one of them."""
    want_term(term)
    return lowered_once(term)


def applied(head, some):
    """The head given several terms, one behind another."""
    want_term(head)
    if not isinstance(some, (list, tuple)):
        raise NoTerm(some)
    for term in some:
        want_term(term)
    return given_all(head, some)


def opened(term):
    """The head of a term, which is no app, and the list of the terms that it is given."""
    want_term(term)
    return head_and_given(term)
