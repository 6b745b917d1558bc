"""Points 111 and 112 once more, as plainly as the document has them."""

from goods import all_spots, part_of, size, with_part
from plain import Fails, raise_by, saying, step_at_itself, worked
from plain_deeds import leans


def room_at(room, term, spot):
    """The room, and then the saying of each binder above the spot."""
    room = list(room)
    for at in spot:
        if term[0] in ("all", "fun") and at == 1:
            room.append(term[1])
        term = term[at + 1]
    return room


def shortenings(ground, room, paper):
    found = []
    for spot in all_spots(paper):
        part, around = part_of(paper, spot), room_at(room, paper, spot)
        step = step_at_itself(ground, part)
        if step:
            found.append((spot, step[0], step[1]))
        if part[0] != "at":
            told = saying(ground, around, part)
            places = [at for at in range(len(around)) if worked(ground, raise_by(around[-1 - at], at + 1)) == told]
            if places:
                found.append((spot, "room", ("at", places[0])))
        if part[0] == "fun" and part[2][0] == "app" and part[2][2] == ("at", 0) and not leans(part[2][1]):
            found.append((spot, "bare", raise_by(part[2][1], -1)))
    return [(spot, word, with_part(paper, spot, other)) for spot, word, other in found]


def betters(ground, room, paper, whole):
    if size(whole) >= size(paper):
        return False
    try:
        return saying(ground, room, whole) == saying(ground, room, paper)
    except Fails:
        return False


def is_short(ground, room, paper):
    return not any(betters(ground, room, paper, whole) for _, _, whole in shortenings(ground, room, paper))


def comes_of(ground, room, paper, other):
    """Whether a paper comes of another one by shortenings, each of which betters it."""
    waiting, seen = [other], []
    while waiting:
        made = waiting.pop()
        if made == paper:
            return True
        if made not in seen and size(made) > size(paper):
            seen.append(made)
            waiting += [whole for _, _, whole in shortenings(ground, room, made) if betters(ground, room, made, whole)]
    return False
