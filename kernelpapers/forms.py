"""Terms taken apart and put together. Nothing is looked at here: who calls has looked at it.

No function here calls itself: what is told may be larger than what was handed in, and stand deeper.
"""

# The words of terms that have parts, and how many; behind such a word there is nothing but parts.
PARTED = {"all": 2, "fun": 2, "app": 2, "same": 3, "self": 2, "put": 3}


def parts_of(term):
    """The terms straight in a term, a tuple."""
    if term[0] in PARTED:
        return term[1:]
    return ()


def passed(word, at):
    """How many binders are passed where the part of this number is gone into."""
    if at == 1 and word in ("all", "fun"):
        return 1
    return 0


def inner_terms(term):
    """All terms in a term, each with the binders above it, in the order of their spots."""
    found = []
    waiting = [(term, 0)]
    while waiting:
        part, above = waiting.pop()
        found.append((part, above))
        below = parts_of(part)
        for at in reversed(range(len(below))):
            waiting.append((below[at], above + passed(part[0], at)))
    return found


def all_spots(term):
    """All spots of a term, in order."""
    found = []
    waiting = [(term, ())]
    while waiting:
        part, spot = waiting.pop()
        found.append(spot)
        below = parts_of(part)
        for at in reversed(range(len(below))):
            waiting.append((below[at], (*spot, at)))
    return found


def reached(term, spot):
    """The part to which a spot leads and the binders above it, or None where it leads nowhere."""
    part = term
    above = 0
    for at in spot:
        below = parts_of(part)
        if at >= len(below):
            return None
        above += passed(part[0], at)
        part = below[at]
    return part, above


def stood_of(term, other):
    """Where the other term, raised by the binders above, stands in a term: a list of spots, each with these binders.

    Of those within one another it is the outermost one.
    """
    found = []
    others = {}
    waiting = [(term, (), 0)]
    while waiting:
        part, spot, above = waiting.pop()
        if above not in others:
            others[above] = raised_by(other, above, 0)
        if part == others[above]:
            found.append((spot, above))
            continue
        below = parts_of(part)
        for at in reversed(range(len(below))):
            waiting.append((below[at], (*spot, at), above + passed(part[0], at)))
    return found


def with_part(term, spot, other):
    """The term with the other one at the spot."""
    way = []
    part = term
    for at in spot:
        way.append((part, at + 1))
        part = part[at + 1]
    made = other
    for part, at in reversed(way):
        made = (*part[:at], made, *part[at + 1:])
    return made


def free_places(term):
    """The free places of a term, rising, each once."""
    found = {}
    for part, above in inner_terms(term):
        if part[0] == "at" and part[1] >= above:
            found[part[1] - above] = True
    return sorted(found)


def rebuilt(part, news):
    """The part with the new parts, where one isn't None; None where all are."""
    if all([new is None for new in news]):
        return None
    olds = part[1:]
    return (part[0], *[old if new is None else new for old, new in zip(olds, news)])


def turned(term, turn):
    """The term with its places turned.

    The turn is handed a place's number and the binders above it, and tells a term, or None where
    the place stays. What stays whole isn't built again, so that equal terms are soon known as such.
    """
    made = []
    waiting = [(term, 0, False)]
    while waiting:
        part, above, parts_made = waiting.pop()
        word = part[0]
        if word == "at":
            made.append(turn(part[1], above))
        elif word not in PARTED:
            made.append(None)
        elif parts_made:
            news = made[-PARTED[word]:]
            del made[-PARTED[word]:]
            made.append(rebuilt(part, news))
        else:
            waiting.append((part, above, True))
            for at in reversed(range(PARTED[word])):
                waiting.append((part[at + 1], above + passed(word, at), False))
    return term if made[0] is None else made[0]


def raised_by(term, by, start):
    """The term with each free place from the start on so much greater."""
    if by == 0:
        return term

    def turn(number, above):
        if number - above >= start:
            return ("at", number + by)
        return None

    return turned(term, turn)


def given_at(term, other, number):
    """The term with the other one as its free place of this number."""
    def turn(place, above):
        if place - above == number:
            return raised_by(other, above, 0)
        if place - above > number:
            return ("at", place - 1)
        return None

    return turned(term, turn)


def given_room(term, others, inward):
    """The term with the others in the places of its room, the last one the nearest.

    So many places inward of that room stay as they are; what is beyond the room is so much less.
    """
    def turn(place, above):
        at = place - above - inward
        if at < 0:
            return None
        if at < len(others):
            return raised_by(others[-1 - at], above + inward, 0)
        return ("at", place - len(others))

    return turned(term, turn)


def lowered_once(term):
    """The term with each free place one less, or None where 0 is one of them."""
    if 0 in free_places(term):
        return None
    return raised_by(term, -1, 0)


def given_all(head, some):
    """The head given the terms, one behind another."""
    made = head
    for term in some:
        made = ("app", made, term)
    return made


def head_and_given(term):
    """The head of a term, which is no app, and the list of the terms that it is given."""
    head = term
    given = []
    while head[0] == "app":
        given.append(head[2])
        head = head[1]
    given.reverse()
    return head, given


def all_of(sayings, term):
    """All of the first saying of all of the second one, and so on, of the term."""
    return _bound("all", sayings, term)


def fun_of(sayings, term):
    """Fun of the first saying of fun of the second one, and so on, of the term."""
    return _bound("fun", sayings, term)


def _bound(word, sayings, term):
    """The term behind a binder of this word for each saying, the first one outermost."""
    made = term
    for saying in reversed(sayings):
        made = (word, saying, made)
    return made


def sayings_and_end(term):
    """The list of the sayings of the alls that a term begins with, and what stands behind them."""
    sayings = []
    end = term
    while end[0] == "all":
        sayings.append(end[1])
        end = end[2]
    return sayings, end


def places(many, inward):
    """So many places in a row, from without inwards, ahead of as many binders as stand inward."""
    return [("at", inward + at) for at in reversed(range(many))]
