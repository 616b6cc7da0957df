"""A WORKS read from its text."""

from handsmade.errors import NoText
from handsmade.figures import FIGURES, number_read
from handsmade.kinds import is_word

FIRST_KIND = 6


class Line:
    """One line of a text: its words are read in order, what can't stand or lacks is refused at its place."""

    def __init__(self, at, words):
        self.at = at
        self.words = words
        self.reached = 0

    def is_more(self):
        """Whether a word is left."""
        return self.reached < len(self.words)

    def word_here(self):
        """The word at the place reached; one that lacks is as a void one, which can't stand anywhere."""
        if self.is_more():
            return self.words[self.reached]
        return ""

    def passes(self, stands):
        """Goes on behind a word that can stand."""
        if not stands:
            raise NoText(self.at, self.reached)
        self.reached += 1

    def read_told(self, word):
        """Reads the word that is told."""
        self.passes(self.word_here() == word)

    def read_from(self, least):
        """Reads a NUMBER no less than least."""
        number = number_read(self.word_here(), FIGURES)
        self.passes(number is not None and number >= least)
        return number

    def read_to(self, most):
        """Reads a NUMBER no greater than most."""
        number = number_read(self.word_here(), FIGURES)
        self.passes(number is not None and number <= most)
        return number

    def read_above(self, ahead):
        """Reads a WORD above the one ahead, "" where none is."""
        word = self.word_here()
        self.passes(is_word(word) and word > ahead)
        return word

    def read_asks(self):
        """Reads asks, to the line's end."""
        asks = []
        ahead = ""
        while self.is_more():
            ahead = self.read_above(ahead)
            asks.append((ahead, self.read_from(1)))
        return tuple(asks)

    def ends(self):
        """Refuses a word more."""
        if self.is_more():
            raise NoText(self.at, self.reached)


def line_at(rows, at):
    """The line of this number; one that lacks has no words, so it is refused at word 0."""
    if at < len(rows):
        return Line(at, rows[at].split(" "))
    return Line(at, [])


def told_numbers(line, head, leasts):
    """The NUMBERS of a line that has its head and then just one NUMBER from each least on."""
    line.read_told(head)
    numbers = tuple([line.read_from(least) for least in leasts])
    line.ends()
    return numbers


def copying_read(line):
    """The COPYING of its line."""
    line.read_told("copying")
    takes = line.read_from(0)
    beats = line.read_from(1)
    asks = line.read_asks()
    return asks, takes, beats


def kind_read(line, ahead):
    """The KIND of its line, its name above that of the KIND ahead."""
    line.read_told("kind")
    name = line.read_above(ahead)
    takes = line.read_from(0)
    beats = line.read_from(1)
    gives = line.read_from(1)
    back = line.read_to(takes)
    asks = line.read_asks()
    return name, asks, takes, beats, gives, back


def kinds_read(rows):
    """The KINDS of all lines from the first one of a KIND on, which has to be there."""
    kinds = []
    ahead = ""
    for at in range(FIRST_KIND, max(FIRST_KIND + 1, len(rows))):
        kind = kind_read(line_at(rows, at), ahead)
        kinds.append(kind)
        ahead = kind[0]
    return tuple(kinds)


def works_read(text):
    """The WORKS that a text writes; any other text is refused at the first word that can't stand."""
    rows = text.split("\n")
    benches = told_numbers(line_at(rows, 0), "benches", (1,))
    agreeing = told_numbers(line_at(rows, 1), "agreeing", (2, 0, 1))
    bounds = told_numbers(line_at(rows, 2), "bounds", (1, agreeing[0], 1, 0))
    spring = told_numbers(line_at(rows, 3), "spring", (0, 1))
    foe = told_numbers(line_at(rows, 4), "foe", (1, 1))
    copying = copying_read(line_at(rows, 5))
    return kinds_read(rows), copying, agreeing, bounds, spring, foe, benches[0]
