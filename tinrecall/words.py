"""The words of a sheet's row."""

from tinrecall.errors import BadRow
from tinrecall.readings import is_reading

FIGURES = "0123456789"
LETTERS = "abcdefghijklmnopqrstuvwxyz"
MOST_FIGURES = 12
LONGEST_NAME = 8
SHORTEST_MARK = 4
LONGEST_MARK = 10


def is_made_of(word, signs, fewest, most):
    """Whether a word has from fewest to most signs, all of them among these."""
    return fewest <= len(word) <= most and all(sign in signs for sign in word)


def is_figures(word):
    """Whether a word is a number as sheets write it, without a nought ahead."""
    return is_made_of(word, FIGURES, 1, MOST_FIGURES) and (word == "0" or word[0] != "0")


class Words:
    """The words of one row, taken one behind the other; what is not as it must be is refused with BadRow."""

    def __init__(self, at, words):
        self.at = at
        self.words = words
        self.gone = 0

    def hold(self, is_so):
        """Refuses the row where something is not so."""
        if not is_so:
            raise BadRow(self.at)

    def has_more(self):
        """Whether a word is left."""
        return self.gone < len(self.words)

    def end(self):
        """Refuses the row where a word is left."""
        self.hold(not self.has_more())

    def word(self):
        """The next word."""
        self.hold(self.has_more())
        self.gone += 1
        return self.words[self.gone - 1]

    def parts(self, sign):
        """The next word's parts, with this sign between them, as words of the same row."""
        return Words(self.at, self.word().split(sign))

    def word_among(self, some):
        """The next word, one of these."""
        word = self.word()
        self.hold(word in some)
        return word

    def number(self):
        """The next word as a number."""
        word = self.word()
        self.hold(is_figures(word))
        return int(word)

    def number_above(self):
        """The next word as a number above 0."""
        number = self.number()
        self.hold(number > 0)
        return number

    def span(self):
        """The next two words as numbers, the first at most the last."""
        first = self.number()
        last = self.number()
        self.hold(first <= last)
        return (first, last)

    def stretch(self):
        """The next word as a stretch `N-N`."""
        ends = self.parts("-")
        pair = ends.span()
        ends.end()
        return pair

    def name(self):
        """The next word as a name."""
        word = self.word()
        self.hold(is_made_of(word, LETTERS, 1, LONGEST_NAME))
        return word

    def mark(self):
        """The next word as a mark."""
        word = self.word()
        self.hold(is_made_of(word, LETTERS + FIGURES, SHORTEST_MARK, LONGEST_MARK))
        return word

    def reading(self):
        """The next word as a reading."""
        word = self.word()
        self.hold(is_reading(word))
        return word
