"""A desk: it has a KEEPER, and answers rows of words with words."""

from handsmade.deedtexts import deed_read, deed_text, figures_read, good_text, lot_read, strike_read
from handsmade.errors import NoLine, NoText
from handsmade.keeper import Keeper
from handsmade.kinds import is_word
from handsmade.standchecker import lets_stand
from handsmade.standrows import BEAT
from handsmade.standtexts import joined, stand_read, stand_text
from handsmade.worksfit import lets_works
from handsmade.worksreading import works_read


def stand_line_read(line):
    """The STAND that line 1 of an "open" writes; what is refused is counted in the row."""
    try:
        return stand_read(line)
    except NoText as refusal:
        raise NoText(refusal.line + 1, refusal.word) from None


def works_lines_read(lines):
    """The WORKS that the lines of an "open" from 2 on write; what is refused is counted in the row."""
    try:
        return works_read("\n".join(lines))
    except NoText as refusal:
        raise NoText(refusal.line + 2, refusal.word) from None


def row_read(words):
    """The row of a deed that words write, None where they write none."""
    if words == ["beat"]:
        return BEAT
    heads, last = None, None
    if words[0] in ("do", "strike"):
        heads = words[:2]
        last = deed_read(words[2:]) if words[0] == "do" else strike_read(words[2:])
    elif words[0] in ("cut", "give"):
        heads = words[:3]
        last = lot_read(words[3:])
    if last is None or not all([is_word(name) for name in heads[1:]]):
        return None
    return tuple(heads) + (last,)


def times_read(words):
    """How many rows an "undo" takes back, None where the words are none."""
    if words == ["undo"]:
        return 1
    if len(words) == 2 and words[0] == "undo":
        return figures_read(words[1])
    return None


def is_look(words):
    """Whether the words ask for a look."""
    if len(words) == 2:
        return words[0] in ("stand", "came", "ledger", "may") and is_word(words[1])
    return words in (["names"], ["ready"])


def goods_text(comes):
    """GOODS that COME as a word."""
    return joined([good_text(good) for good in comes], ",")


def looked(keeper, words):
    """What a look at a KEEPER tells."""
    if words[0] == "names":
        return " ".join(keeper.names())
    if words[0] == "ready":
        return "yes" if keeper.may_beat() else "no"
    if words[0] == "stand":
        return stand_text(keeper.stand_of(words[1]))
    if words[0] == "came":
        return joined([goods_text(comes) for comes in keeper.came(words[1])], " | ")
    if words[0] == "ledger":
        return " ".join([str(many) for many in keeper.ledger(words[1])])
    return joined([deed_text(deed) for deed in keeper.may(words[1])], " | ")


def done_so(keeper, row):
    """What a KEEPER's deed tells."""
    if row == BEAT:
        return " ".join([name + ":" + goods_text(comes) for name, comes in keeper.beat()])
    keeper.do_all((row,))
    return "ok"


class Desk:
    """A KEEPER, at first none, that rows are told to. It counts the rows begun and ended."""

    def __init__(self):
        self._keeper = None
        self._begun = 0
        self._ended = 0

    def say(self, row):
        """The answer to a row."""
        self._begun += 1
        try:
            return self._answered(row)
        finally:
            self._ended += 1

    def counts(self):
        """How many rows were begun, and how many ended."""
        return self._begun, self._ended

    def _answered(self, row):
        lines = row.split("\n")
        if lines[0] == "open" and len(lines) > 2:
            return self._opened(lines)
        if self._keeper is None:
            raise NoLine(row)
        words = row.split(" ")
        deed_row = row_read(words)
        if deed_row is not None:
            return done_so(self._keeper, deed_row)
        times = times_read(words)
        if times is not None:
            self._keeper.back(times=times)
            return str(len(self._keeper.log()) - 1)
        if not is_look(words):
            raise NoLine(row)
        return looked(self._keeper, words)

    def _opened(self, lines):
        stand = stand_line_read(lines[1])
        works = works_lines_read(lines[2:])
        lets_works(works)
        lets_stand(works, stand)
        self._keeper = Keeper(works, stand)
        return "ok"
