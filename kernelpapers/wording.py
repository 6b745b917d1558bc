"""Texts parted into words, and what single words mean."""

from kernelpapers.terms import HIGHEST, is_name

FIGURES = "0123456789"
# A binder's name is x and a number from 0 to 999; so many figures have the lines' numbers, too.
FEW_FIGURES = 3
MOST_FIGURES = 30


def words_of(text):
    """The words of a text: each bracket, and each longest row of signs that has neither brackets nor blanks."""
    parted = text.replace("(", " ( ").replace(")", " ) ")
    return [word for word in parted.split(" ") if word]


def text_of(words):
    """The text of words: a blank between any two, but none behind `(` and none ahead of `)`."""
    return " ".join(words).replace("( ", "(").replace(" )", ")")


def number_of(word, figures):
    """The whole number that a word is, written plainly in at most so many figures, or None."""
    if not 1 <= len(word) <= figures or not all([sign in FIGURES for sign in word]):
        return None
    if word[0] == "0" and len(word) > 1:
        return None
    return int(word)


def height_of(word):
    """The height that a word is, or None."""
    height = number_of(word, 1)
    return None if height is None or height > HIGHEST else height


def binder_of(word):
    """The number of the binder that a word names, or None."""
    return number_of(word[1:], FEW_FIGURES) if word[:1] == "x" else None


def leaf_of(word, around):
    """The term that a single word means, or None where it means none.

    Around are the numbers of the room's names and the binders, the nearest last, None being one without a name.
    """
    if is_name(word):
        return ("thing", word)
    if "#" in word:
        name, _, rest = word.partition("#")
        return _leaf_with("maker", name, number_of(rest, MOST_FIGURES))
    if "!" in word:
        name, _, rest = word.partition("!")
        return _leaf_with("eater", name, height_of(rest))
    if word[:1] == "@":
        return ("name", word[1:]) if is_name(word[1:]) else None
    if word[:1] == "*":
        height = height_of(word[1:])
        return None if height is None else ("kind", height)
    return _place_of(binder_of(word), around)


def _leaf_with(word, name, number):
    """The leaf of a name and a number, or None where one of them is none."""
    return (word, name, number) if is_name(name) and number is not None else None


def _place_of(number, around):
    """The place of the nearest binder of this number, or None."""
    if number is None:
        return None
    for place in range(len(around)):
        if around[-1 - place] == number:
            return ("at", place)
    return None
