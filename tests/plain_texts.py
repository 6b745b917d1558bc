"""Points 61 and 62 once more, as plainly as the document has them, by functions that call themselves."""

import re
from plain import PARTS, raise_by, spine


def is_free(term, number=0):
    """Whether a place is free in a term."""
    if term[0] == "at":
        return term[1] == number
    if term[0] not in PARTS:
        return False
    inner = [0, 1] if term[0] in ("all", "fun") else [0] * PARTS[term[0]]
    return any(is_free(part, number + more) for part, more in zip(term[1:], inner))


def show(term, names=0):
    """The text, the room's names and those of the shown binders being x0 to the number less one."""
    word, *rest = term
    if word == "at":
        return f"x{names - 1 - rest[0]}"
    if word == "kind":
        return f"*{rest[0]}"
    if word == "thing":
        return rest[0]
    if word == "name":
        return f"@{rest[0]}"
    if word == "maker":
        return f"{rest[0]}#{rest[1]}"
    if word == "eater":
        return f"{rest[0]}!{rest[1]}"
    if word == "all" and not is_free(rest[1]):
        left = show(rest[0], names)
        if rest[0][0] in ("all", "fun"):
            left = f"({left})"
        # Lowered, and shown where the all stands.
        return f"{left} -> {show(raise_by(rest[1], -1, 1), names)}"
    if word in ("all", "fun"):
        return f"{word} x{names} : {show(rest[0], names)} . {show(rest[1], names + 1)}"
    if word == "app":
        head, given = spine(term)
        told = show(head, names)
        if head[0] in ("same", "self", "put", "all", "fun"):
            told = f"({told})"
        return " ".join([told, *[show_part(part, names) for part in given]])
    return " ".join([word, *[show_part(part, names) for part in rest]])


def show_part(part, names):
    told = show(part, names)
    return f"({told})" if part[0] in PARTS else told


def words(text):
    return re.findall(r"[()]|[^() ]+", text)


def text_with_blanks(chance, text):
    """The text with blanks more, wherever some may stand."""
    told = " " * chance.randrange(3)
    for at, word in enumerate(words(text)):
        ahead = words(text)[at - 1] if at else "("
        least = 0 if word in "()" or ahead in "()" else 1
        told += " " * chance.choice([least, least, 1, 3]) + word
    return told + " " * chance.randrange(3)


def without_brackets(text):
    """The texts of which one pair of brackets each is left out."""
    told = words(text)
    begun, found = [], []
    for at, word in enumerate(told):
        if word == "(":
            begun.append(at)
        if word == ")":
            first = begun.pop()
            found.append(" ".join([*told[:first], *told[first + 1:at], *told[at + 1:]]))
    return found
