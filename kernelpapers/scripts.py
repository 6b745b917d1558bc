"""Scripts: deeds joined, tried one behind another, and put otherwise."""

from kernelpapers.errors import NoDeed, NoFit, NoneGoes, NoneLeft, NotThere, PaperError
from kernelpapers.joined import is_joined
from kernelpapers.seeking import sought


def is_script(thing):
    """Whether a thing is a script."""
    return is_joined(thing)


def want_script(thing):
    """Refuses what is no script."""
    if not is_joined(thing):
        raise NoDeed(thing)


def run(work, hole, deeds):
    """Runs a script at an open hole; tells the open holes beneath it, or the hole alone where nothing was done."""
    # It is refused here where it is no open hole.
    work.goal(hole)
    want_script(deeds)
    return _tried(work, hole, deeds)


def _tried(work, hole, script):
    """Runs a script; where it is refused, the work is as it was ahead of it."""
    ahead = work.mark()
    try:
        return _run(work, hole, script)
    except (PaperError, NotThere, NoneLeft):
        work.back_to(ahead)
        raise


def _run(work, hole, script):
    """Runs a script; where it is refused, what was done ahead stays done."""
    word = script[0]
    if word == "skip":
        return [hole]
    if word == "then":
        return _run_at_each(work, _run(work, hole, script[1]), script[2])
    if word == "each":
        return _run_each(work, hole, script)
    if word == "first":
        return _run_first(work, hole, script)
    if word == "try":
        left = _left_if_goes(work, hole, script[1])
        return [hole] if left is None else left
    if word == "again":
        return _run_again(work, hole, script)
    if word == "seek":
        return _run_seek(work, hole, script)
    return work.do(hole, script)


def _run_at_each(work, holes, script):
    """Runs a script at each of the holes, in order."""
    left = []
    for hole in holes:
        left.extend(_run(work, hole, script))
    return left


def _run_each(work, hole, script):
    """Runs the first script, then the others, one at each hole that it leaves."""
    holes = _run(work, hole, script[1])
    if len(holes) != len(script[2]):
        raise NoFit(script)
    left = []
    for one, inner in zip(holes, script[2]):
        left.extend(_run(work, one, inner))
    return left


def _left_if_goes(work, hole, script):
    """The holes that a script leaves, or None where it is refused."""
    try:
        return _tried(work, hole, script)
    except (PaperError, NotThere, NoneLeft):
        return None


def _run_first(work, hole, script):
    """Runs the first of the scripts that isn't refused."""
    for inner in script[1]:
        left = _left_if_goes(work, hole, inner)
        if left is not None:
            return left
    raise NoneGoes(script)


def _run_again(work, hole, script):
    """Runs a script again and again, as often as told, until it is refused."""
    _, inner, many = script
    if many == 0:
        return [hole]
    left = _left_if_goes(work, hole, inner)
    # Where nothing was done, nothing would be done the next time.
    if left is None or left == [hole]:
        return [hole]
    return _run_at_each(work, left, ("again", inner, many - 1))


def _run_seek(work, hole, script):
    """Gives a paper of the hole's goal, where a search finds one."""
    room, saying = work.goal(hole)
    paper = sought(work.ground(), room, saying, script[1])
    if paper is None:
        raise NoneGoes(script)
    return work.do(hole, ("give", paper))


def otherwise(deeds):
    """The script put otherwise, until no turn can be made any more."""
    want_script(deeds)
    return _otherwise(deeds)


def _otherwise(script):
    """The script of which no turn can be made any more."""
    word = script[0]
    if word == "then":
        return _then_of([*_row_of(_otherwise(script[1])), *_row_of(_otherwise(script[2]))])
    if word == "each":
        return ("each", _otherwise(script[1]), tuple([_otherwise(inner) for inner in script[2]]))
    if word == "first":
        return _first_of([_otherwise(inner) for inner in script[1]])
    if word == "try":
        return _first_of([_otherwise(script[1]), ("skip",)])
    if word == "again":
        return ("again", _otherwise(script[1]), script[2])
    return script


def _row_of(script):
    """The scripts that are run one behind another, none of them a then or a skip."""
    row = []
    rest = script
    while rest[0] == "then":
        row.append(rest[1])
        rest = rest[2]
    return row if rest[0] == "skip" else [*row, rest]


def _then_of(row):
    """The script that runs these one behind another."""
    if not row:
        return ("skip",)
    made = row[-1]
    for script in reversed(row[:-1]):
        made = ("then", script, made)
    return made


def _first_of(scripts):
    """The first of these, each first among which gives way to its own."""
    some = []
    for script in scripts:
        some.extend(script[1] if script[0] == "first" else [script])
    return ("first", tuple(some))
