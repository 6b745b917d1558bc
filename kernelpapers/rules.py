"""The four rules by which a term goes at its own spot. Who calls has looked at ground and term."""

from kernelpapers.forms import fun_of, given_all, given_at, given_room, head_and_given, places, raised_by


def rule_of(ground, term):
    """The rule by which a term goes at its own spot, or None."""
    word = term[0]
    if word == "app":
        if term[1][0] == "fun":
            return "give"
        return "eat" if _is_eaten(ground, term) else None
    if word == "name" and ground.row_of(term[1], "mean") is not None:
        return "mean"
    if word == "put" and term[2][0] == "self":
        return "self"
    return None


def become(ground, term, rule):
    """What a term becomes by the rule by which it goes at its own spot."""
    if rule == "give":
        return given_at(term[1][2], term[2], 0)
    if rule == "mean":
        return ground.row_of(term[1], "mean")[3]
    if rule == "self":
        return term[3]
    return _eaten(ground, term)


def _is_eaten(ground, term):
    """Whether an app is an eater given just enough, the last of them a maker given just enough."""
    maker, some = head_and_given(term[2])
    if maker[0] != "maker":
        return False
    eater, given = head_and_given(term)
    if eater[0] != "eater" or eater[1] != maker[1]:
        return False
    row = ground.row_of(eater[1], "thing")
    if row is None or maker[2] >= len(row[4]):
        return False
    bounds = len(row[3])
    return len(given) == bounds + len(row[4]) + 2 and len(some) == bounds + len(row[4][maker[2]])


def _eaten(ground, term):
    """What an eater given just enough becomes."""
    eater, given = head_and_given(term)
    maker, some = head_and_given(given[-1])
    row = ground.row_of(eater[1], "thing")
    bounds = given[:len(row[3])]
    arguments = some[len(bounds):]
    stays = given_all(eater, given[:-1])
    told = list(arguments)
    for argument, between in ground.owned(row, maker[2]):
        told.append(_told_of_own(stays, bounds, arguments, argument, between))
    return given_all(given[len(bounds) + 1 + maker[2]], told)


def _told_of_own(stays, bounds, arguments, argument, between):
    """What an eater, given all but the last, tells of an own argument, behind the sayings between."""
    many = len(between)
    room = [*bounds, *arguments[:argument]]
    sayings = [given_room(saying, room, at) for at, saying in enumerate(between)]
    own = given_all(raised_by(arguments[argument], many, 0), places(many, 0))
    return fun_of(sayings, ("app", raised_by(stays, many, 0), own))
