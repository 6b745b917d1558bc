"""Rows of a ground, where a told thing may grow, and the sayings of its heads."""

from kernelpapers.errors import NoRow
from kernelpapers.forms import all_of, all_spots, given_all, inner_terms, places, raised_by, sayings_and_end
from kernelpapers.terms import HIGHEST, is_name, is_term, is_whole, want_whole

MOST_BOUNDS = 3
MOST_MAKERS = 5
MOST_ARGUMENTS = 4


def is_row(thing):
    """Whether a thing is a row."""
    if not isinstance(thing, tuple) or len(thing) < 3 or not is_name(thing[1]):
        return False
    if thing[0] == "thing":
        return len(thing) == 5 and _are_of_thing(thing[2], thing[3], thing[4])
    if thing[0] == "mean":
        return len(thing) == 4 and is_term(thing[2]) and is_term(thing[3])
    return thing[0] == "hold" and len(thing) == 3 and is_term(thing[2])


def _are_of_thing(height, bounds, makers):
    """Whether these can stand in a row of a thing."""
    if not is_whole(height, 0, HIGHEST) or not _are_terms(bounds, MOST_BOUNDS):
        return False
    if not isinstance(makers, tuple) or len(makers) > MOST_MAKERS:
        return False
    return all([_are_terms(sayings, MOST_ARGUMENTS) for sayings in makers])


def _are_terms(thing, most):
    """Whether a thing is a tuple of terms, as many as most at the most."""
    return isinstance(thing, tuple) and len(thing) <= most and all([is_term(term) for term in thing])


def _want_row_of_thing(row):
    """Refuses what is no row of a thing."""
    if not is_row(row) or row[0] != "thing":
        raise NoRow(row)


def _want_maker(row, maker):
    """Refuses what is no row of a thing, then what is no number of its makers."""
    _want_row_of_thing(row)
    want_whole(maker, 0, len(row[4]) - 1)


def ungrown(row):
    """Where a thing doesn't grow as it may, (maker, argument, spot), or None."""
    _want_row_of_thing(row)
    for maker, sayings in enumerate(row[4]):
        for argument, saying in enumerate(sayings):
            spot = _stray_spot(row, argument, saying)
            if spot is not None:
                return maker, argument, spot
    return None


def owns(row, maker):
    """The own arguments of a maker, each with the list of the sayings between."""
    _want_maker(row, maker)
    return own_arguments(row, maker)


def thing_saying(row):
    """The saying of a thing."""
    _want_row_of_thing(row)
    return all_of(row[3], ("kind", row[2]))


def maker_saying(row, maker):
    """The saying of a thing's maker."""
    _want_maker(row, maker)
    sayings = row[4][maker]
    return all_of(row[3] + sayings, bounded(row, ("thing", row[1]), len(sayings)))


def eater_saying(row, height):
    """The saying of a thing's eater into the kind of a height."""
    _want_row_of_thing(row)
    want_whole(height, 0, HIGHEST)
    thing = ("thing", row[1])
    many = len(row[4])
    told = ("all", bounded(row, thing, 0), ("kind", height))
    steps = [step_saying(row, maker, maker) for maker in range(many)]
    one = bounded(row, thing, many + 1)
    return all_of([*row[3], told, *steps, one], ("app", ("at", many + 1), ("at", 0)))


def bounded(row, head, inward):
    """The head given the bounds, as places, where so many binders stand inward of them."""
    return given_all(head, places(len(row[3]), inward))


def own_arguments(row, maker):
    """The own arguments of a maker that is there, each with the list of the sayings between."""
    found = []
    for argument, saying in enumerate(row[4][maker]):
        sayings = _sayings_if_grown(row, argument, saying)
        if sayings is not None and _stray_spot(row, argument, saying) is None:
            found.append((argument, sayings))
    return found


def _sayings_if_grown(row, argument, saying):
    """The sayings ahead of the thing given just its bounds, or None where a saying ends otherwise."""
    sayings, end = sayings_and_end(saying)
    if end == bounded(row, ("thing", row[1]), argument + len(sayings)):
        return sayings
    return None


def _stray_spot(row, argument, saying):
    """The least spot of an argument's saying at which the thing stands where it mayn't, or None."""
    sayings = _sayings_if_grown(row, argument, saying)
    grown = None if sayings is None else (1,) * len(sayings) + (0,) * len(row[3])
    for spot, (part, _) in zip(all_spots(saying), inner_terms(saying)):
        if part[0] in ("thing", "maker", "eater") and part[1] == row[1] and spot != grown:
            return spot
    return None


def step_saying(row, maker, beyond):
    """A maker's step in an eater's saying: in a room of the bounds, P, and so many sayings beyond it."""
    many = len(row[4][maker])
    owned = own_arguments(row, maker)
    sayings = [raised_by(saying, beyond + 1, at) for at, saying in enumerate(row[4][maker])]
    for ahead, (argument, between) in enumerate(owned):
        sayings.append(_own_saying(many, argument, between, ahead, beyond))
    inward = many + len(owned)
    head = bounded(row, ("maker", row[1], maker), inward + beyond + 1)
    made = given_all(head, places(many, len(owned)))
    return all_of(sayings, ("app", ("at", inward + beyond), made))


def _own_saying(many, argument, between, ahead, beyond):
    """What a step says of an own argument, behind all the many arguments and so many such sayings ahead."""
    moved = []
    for at, saying in enumerate(between):
        # The saying stood straight behind the argument's own forerunners, and in a room without P.
        past_told = raised_by(saying, beyond + 1, at + argument)
        moved.append(raised_by(past_told, many - argument + ahead, at))
    inward = len(between) + ahead
    own = given_all(("at", inward + many - 1 - argument), places(len(between), 0))
    return all_of(moved, ("app", ("at", inward + many + beyond), own))
