"""Terms read from words."""

from kernelpapers.errors import NoSign
from kernelpapers.forms import PARTED, given_all
from kernelpapers.wording import binder_of, leaf_of


def read_words(words, names):
    """The term of words in a room of so many names; refused at the first word that can't stand where it does."""
    return Reader(words, names).read()


class Reader:
    """Reads the words of one term, from the first to the last.

    What is begun and isn't over waits in a list, the innermost last:
        ("bracket",): a term, then a bracket that ends;
        ("saying", word, number): a binder's saying, then a point;
        ("behind", word, saying): what stands behind a point or an arrow;
        ("row", word, parts): same, self or put, or terms given to the first one, whose word is empty.
    """

    def __init__(self, words, names):
        self._words = words
        self._at = 0
        self._begun = []
        # The numbers of all binders around, None of an arrow's, which has no name.
        self._around = list(range(names))

    def read(self):
        """The term of all the words."""
        self._begin_term()
        while True:
            term = self._go_on()
            if term is not None:
                term = self._end(term)
            if term is not None:
                if self._at < len(self._words):
                    raise NoSign(self._at)
                return term

    def _word(self):
        """The word at hand, which is empty where there are no more."""
        return self._words[self._at] if self._at < len(self._words) else ""

    def _want(self, word):
        """Goes past a word; refuses another one."""
        if self._word() != word:
            raise NoSign(self._at)
        self._at += 1

    def _begin_term(self):
        """Goes past all that a term begins with, its first single word too."""
        begun = True
        while begun:
            word = self._word()
            if word in ("all", "fun"):
                self._begin_binder(word)
            else:
                self._begin_row(word)
                begun = self._begin_part()

    def _begin_binder(self, word):
        """Goes past a binder and its name, up to its saying."""
        self._at += 1
        number = binder_of(self._word())
        if number is None:
            raise NoSign(self._at)
        self._at += 1
        self._want(":")
        self._begun.append(("saying", word, number))

    def _begin_row(self, word):
        """Begins a row, and goes past its word where it has one."""
        if word in ("same", "self", "put"):
            self._at += 1
            self._begun.append(("row", word, []))
        else:
            self._begun.append(("row", "", []))

    def _begin_part(self):
        """Goes past a bracket or a single word, which is a part then; tells whether a term begins there."""
        word = self._word()
        if word == "(":
            self._at += 1
            self._begun.append(("bracket",))
            return True
        leaf = leaf_of(word, self._around)
        if leaf is None:
            raise NoSign(self._at)
        self._at += 1
        self._begun[-1][2].append(leaf)
        return False

    def _go_on(self):
        """Goes on behind a part of a row; tells the row's term where it is over, else None."""
        _, word, parts = self._begun[-1]
        if self._has_more(word, parts):
            if self._begin_part():
                self._begin_term()
            return None
        self._begun.pop()
        term = (word, *parts) if word else given_all(parts[0], parts[1:])
        if self._word() != "->":
            return term
        self._at += 1
        self._begin_behind("all", term, None)
        return None

    def _has_more(self, word, parts):
        """Whether a row that has these parts goes on with another one."""
        if word:
            return len(parts) < PARTED[word]
        ahead = self._word()
        return ahead == "(" or leaf_of(ahead, self._around) is not None

    def _begin_behind(self, word, saying, number):
        """Begins what stands behind a binder of this number, whose saying is over."""
        self._begun.append(("behind", word, saying))
        self._around.append(number)
        self._begin_term()

    def _end(self, term):
        """Ends all that ends with a term; tells the whole where nothing is left begun, else None."""
        while self._begun:
            begun = self._begun[-1]
            if begun[0] == "bracket":
                self._want(")")
                self._begun.pop()
                self._begun[-1][2].append(term)
                return None
            if begun[0] == "saying":
                self._want(".")
                self._begun.pop()
                self._begin_behind(begun[1], term, begun[2])
                return None
            self._begun.pop()
            self._around.pop()
            term = (begun[1], begun[2], term)
        return term
