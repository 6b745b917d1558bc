"""Terms told as words. Who calls has looked at them."""

from kernelpapers.forms import PARTED, free_places, head_and_given
from kernelpapers.wording import text_of

# Where these stand as a part or as a head, the text would be read otherwise without brackets.
BINDING = ("all", "fun")
LONG_HEADS = ("all", "fun", "same", "self", "put")


def fits(term, names):
    """Whether a term has no free places but those of a room of so many names."""
    free = free_places(term)
    return not free or free[-1] < names


def shown(term, names):
    """The text of a term in a room of so many names."""
    told = []
    waiting = [(term, tuple([f"x{number}" for number in range(names)]), names)]
    while waiting:
        thing = waiting.pop()
        if isinstance(thing, str):
            told.append(thing)
        else:
            part, around, many = thing
            waiting.extend(_pieces(part, around, many)[::-1])
    return text_of(told)


def _pieces(term, around, many):
    """What a term is shown as: a list of words, and of parts with the names around and how many are shown.

    An arrow's binder isn't shown; it has a name that nothing means, so that places are counted past it.
    """
    word = term[0]
    if word not in PARTED:
        return [_word_of(term, around)]
    if word in BINDING:
        if word == "all" and 0 not in free_places(term[2]):
            left = _within(term[1], around, many, term[1][0] in BINDING)
            return [*left, "->", (term[2], (*around, ""), many)]
        name = f"x{many}"
        return [word, name, ":", (term[1], around, many), ".", (term[2], (*around, name), many + 1)]
    if word == "app":
        head, given = head_and_given(term)
        pieces = _within(head, around, many, head[0] in LONG_HEADS)
    else:
        given = term[1:]
        pieces = [word]
    for part in given:
        pieces.extend(_within(part, around, many, part[0] in PARTED))
    return pieces


def _within(part, around, many, bracketed):
    """The pieces of a part, with brackets around it or without."""
    piece = (part, around, many)
    return ["(", piece, ")"] if bracketed else [piece]


def _word_of(leaf, around):
    """The single word of a term that has no parts."""
    word = leaf[0]
    if word == "at":
        return around[-1 - leaf[1]]
    if word == "kind":
        return f"*{leaf[1]}"
    if word == "name":
        return f"@{leaf[1]}"
    if word == "maker":
        return f"{leaf[1]}#{leaf[2]}"
    if word == "eater":
        return f"{leaf[1]}!{leaf[2]}"
    return leaf[1]
