"""The sayings of what has no parts and is no place, as the rows of a ground tell them."""

from kernelpapers.errors import NoPaper
from kernelpapers.terms import HIGHEST
from kernelpapers.things import eater_saying, maker_saying, thing_saying


def head_saying(ground, part, spot):
    """The saying of a kind, a name, a thing, a maker or an eater, in no room; refused at the spot where it has none."""
    word = part[0]
    if word == "kind":
        _want_lower(part[1], spot)
        return ("kind", part[1] + 1)
    if word == "name":
        row = ground.row_of(part[1], "mean") or ground.row_of(part[1], "hold")
        if row is None:
            raise NoPaper(spot, "name")
        return row[2]
    row = ground.row_of(part[1], "thing")
    if row is None:
        raise NoPaper(spot, "name")
    if word == "thing":
        return thing_saying(row)
    if word == "maker":
        if part[2] >= len(row[4]):
            raise NoPaper(spot, "maker")
        return maker_saying(row, part[2])
    _want_lower(part[2], spot)
    return eater_saying(row, part[2])


def _want_lower(height, spot):
    """Refuses the highest height, above which there is none."""
    if height == HIGHEST:
        raise NoPaper(spot, "height")
