"""Point 94 once more, as plainly as the document has it: whether there is a paper, and whether a term is one."""

from plain import apply, raise_by, saying, spine, worked
from plain_deeds import NotDone, bounded, leans


def ways(told, wanted):
    """The sayings that this one is all of ahead of the wanted one (none or more), or None."""
    found = []
    while told != wanted:
        if told[0] != "all" or leans(told[2]):
            return None
        found.append(told[1])
        told = raise_by(told[2], -1, 1)
    return found


def heads(ground, room, wanted):
    """The places and makers of which papers can begin, each with the sayings of what it is given."""
    told = [(("at", at), raise_by(room[-1 - at], at + 1)) for at in range(len(room))]
    try:
        row, bounds = bounded(ground, wanted)
        for number in range(len(row[4])):
            maker = apply(("maker", row[1], number), bounds)
            told.append((maker, saying(ground, room, maker)))
    except NotDone:
        pass
    found = [(head, ways(one, wanted)) for head, one in told]
    return [(head, some) for head, some in found if some is not None]


def there_is(ground, room, wanted, depth):
    """Whether there is a paper of the saying (worked out, as those of the room are)."""
    if depth < 1:
        return False
    for head, some in heads(ground, room, wanted):
        if not some or depth > 1 and all(there_is(ground, room, one, depth - 1) for one in some):
            return True
    return wanted[0] == "all" and depth > 1 and there_is(ground, [*room, wanted[1]], wanted[2], depth - 1)


def is_paper(ground, room, wanted, depth, term):
    """Whether a term is a paper of this depth."""
    if depth < 1:
        return False
    for head, some in heads(ground, room, wanted):
        begun, given = spine(term)
        cut = len(given) - len(some)
        if cut >= 0 and apply(begun, given[:cut]) == head:
            if not some or depth > 1 and all(is_paper(ground, room, one, depth - 1, part) for one, part in zip(some, given[cut:])):
                return True
    return (wanted[0] == "all" and depth > 1 and term[:2] == ("fun", wanted[1])
            and is_paper(ground, [*room, wanted[1]], wanted[2], depth - 1, term[2]))


def worked_room(ground, room):
    return [worked(ground, one) for one in room]
