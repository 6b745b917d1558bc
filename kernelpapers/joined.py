"""Scripts taken apart: the scripts and the terms in them. Nothing is looked at here but where it is said."""

from kernelpapers.deeds import is_deed
from kernelpapers.doings import terms_of_deed
from kernelpapers.terms import is_whole

MOST_AGAIN = 5
MOST_DEPTH = 6


def inner_scripts(thing):
    """The things straight in a thing that are to be scripts, where it is of the form of a joined script, else None."""
    if not isinstance(thing, tuple) or not thing or not isinstance(thing[0], str):
        return None
    word, many = thing[0], len(thing)
    if word == "skip" and many == 1:
        return []
    if word == "seek" and many == 2:
        return [] if is_whole(thing[1], 0, MOST_DEPTH) else None
    if word == "try" and many == 2:
        return [thing[1]]
    if word == "first" and many == 2:
        return list(thing[1]) if isinstance(thing[1], tuple) and thing[1] else None
    if word == "then" and many == 3:
        return [thing[1], thing[2]]
    if word == "each" and many == 3:
        return [thing[1], *thing[2]] if isinstance(thing[2], tuple) else None
    if word == "again" and many == 3:
        return [thing[1]] if is_whole(thing[2], 0, MOST_AGAIN) else None
    return None


def is_joined(thing):
    """Whether a thing is a script, which is looked at here."""
    waiting = [thing]
    while waiting:
        one = waiting.pop()
        if not is_deed(one):
            inner = inner_scripts(one)
            if inner is None:
                return False
            waiting.extend(inner)
    return True


def terms_of_script(script):
    """All terms in a script."""
    found = []
    waiting = [script]
    while waiting:
        one = waiting.pop()
        inner = inner_scripts(one)
        if inner is None:
            found.extend(terms_of_deed(one))
        else:
            waiting.extend(inner)
    return found


def script_with(script, turn):
    """The script with each of its terms turned; the turn is handed a term and tells one."""
    word = script[0]
    if inner_scripts(script) is None:
        return _deed_with(script, turn)
    if word in ("skip", "seek"):
        return script
    if word == "first":
        return (word, tuple([script_with(one, turn) for one in script[1]]))
    made = script_with(script[1], turn)
    if word == "then":
        return (word, made, script_with(script[2], turn))
    if word == "each":
        return (word, made, tuple([script_with(one, turn) for one in script[2]]))
    return (word, made, *script[2:])


def _deed_with(deed, turn):
    """The deed with each of its terms turned."""
    word = deed[0]
    if word in ("bring", "steps", "split"):
        return deed
    if word == "make":
        return (word, deed[1], _some_with(deed[2], turn))
    if word == "use":
        return (word, turn(deed[1]), _some_with(deed[2], turn))
    return (word, turn(deed[1]))


def _some_with(some, turn):
    """The things with each term among them turned."""
    return tuple([None if thing is None else turn(thing) for thing in some])
