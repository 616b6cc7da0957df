"""A KEEPER: it lets a deed just where all can be had again and again, for ever, whatever the FOE does."""

from handsmade.beats import beat_passed
from handsmade.bounds import MOST
from handsmade.cuttings import daughter_of, left_of
from handsmade.deeds import deeds_at, done
from handsmade.errors import HandsError, NoBack, NoDeed, NoHouse, NoKeep
from handsmade.houses import beaten, done_in, given_to, ledger_in, new_house, sent_from, struck_in
from handsmade.kinds import is_number_from
from handsmade.known import Known
from handsmade.standrows import BEAT
from handsmade.stands import put_at


class Keeper:
    """The HOUSES of a WORKS, all KEPT. It holds what they were ahead of each row, so all can be taken back."""

    def __init__(self, works, stand):
        self._works = works
        self._first = stand
        self._known = Known(works, MOST, counts_all=False)
        if not self._known.is_kept(stand):
            raise NoKeep(None)
        self._houses = (new_house(works, "mother", stand, is_ready=True, rows=()),)
        self._past = []
        self._begun = 0
        self._ended = 0

    def do(self, name, deed):
        """Does a DEED in a HOUSE: the STAND behind it."""
        return self._counted(("do", name, deed))

    def beat(self):
        """Lets all HOUSES have their BEAT: of each its name and what COMES."""
        return self._counted(BEAT)

    def strike(self, name, strike):
        """Strikes a HOUSE that is OPEN: the STAND behind it."""
        return self._counted(("strike", name, strike))

    def cut(self, name, fresh, lot):
        """Founds a HOUSE by a LOT of another one: the DAUGHTER."""
        return self._counted(("cut", name, fresh, lot))

    def give(self, name, other, lot):
        """Gives a LOT of a HOUSE to another one: the STAND of this."""
        return self._counted(("give", name, other, lot))

    def back(self, *, times=1):
        """Takes back so many of the last rows: these, the last one first."""
        self._begun += 1
        try:
            if not is_number_from(times, 1) or times > len(self._past):
                raise NoBack(times)
            return self._taken_back(times)
        finally:
            self._ended += 1

    def do_all(self, rows, *, keep=False):
        """Does several rows in one: how many. Where one is refused none stays but, if told so, those ahead of it."""
        self._begun += 1
        many = len(self._past)
        try:
            for row in rows:
                self._row_done(row)
            return len(rows)
        except HandsError:
            if not keep:
                self._taken_back(len(self._past) - many)
            raise
        finally:
            self._ended += 1

    def counts(self):
        """How many deeds were begun, and how many ended."""
        return self._begun, self._ended

    def works_now(self):
        """The WORKS."""
        return self._works

    def names(self):
        """The names of the HOUSES, in their order."""
        return tuple([house.name for house in self._houses])

    def __len__(self):
        return len(self._houses)

    def has(self, thing):
        """Whether any thing is the name of a HOUSE."""
        return thing in self.names()

    def stand_of(self, name):
        """The STAND of a HOUSE."""
        return self._house(name).stand

    def is_open(self, name):
        """Whether a HOUSE is OPEN."""
        return self._house(name).is_ready

    def came(self, name):
        """What came in a HOUSE, beat by beat."""
        return self._house(name).comes

    def rows_of(self, name):
        """The rows that named a HOUSE, and its beats."""
        return self._house(name).rows

    def ledger(self, name):
        """(begun, sprung, had, sent, ash, struck, there) of a HOUSE."""
        return ledger_in(self._works, self._house(name))

    def may(self, name):
        """All DEEDS that are let now in a HOUSE, rising."""
        stand = self._house(name).stand
        deeds = deeds_at(self._works, stand)
        return tuple([deed for deed in deeds if self._known.is_safe(done(self._works, stand, deed))])

    def may_beat(self):
        """Whether the beat is let now."""
        for house in self._houses:
            behind, _ = beat_passed(self._works, house.stand)
            if not self._known.is_kept(behind):
                return False
        return True

    def log(self):
        """The WORKS and the first STAND, then the row of each deed."""
        return (("keeper", self._works, self._first),) + tuple([row for row, _ in self._past])

    def __str__(self):
        return " ".join([",".join(self.names()), str(self._beats())])

    def __eq__(self, other):
        return isinstance(other, Keeper) and self._looks() == other._looks()

    def _beats(self):
        """How many beats there were."""
        return len([row for row, _ in self._past if row == BEAT])

    def _looks(self):
        """What is the same of two KEEPERS that are ==."""
        return self._works, [(house.name, house.stand, house.is_ready) for house in self._houses]

    def _place(self, name):
        """The number of the HOUSE of this name."""
        for k, house in enumerate(self._houses):
            if house.name == name:
                return k
        raise NoHouse(name)

    def _house(self, name):
        """The HOUSE of this name."""
        return self._houses[self._place(name)]

    def _counted(self, row):
        """What a row tells that is done by itself."""
        self._begun += 1
        try:
            return self._row_done(row)
        finally:
            self._ended += 1

    def _row_done(self, row):
        """What a row tells; it is noted but where it is refused, and then all is as it was."""
        if row == BEAT:
            return self._beat_done(row)
        if row[0] == "do":
            return self._deed_done(row)
        if row[0] == "strike":
            return self._strike_done(row)
        if row[0] == "cut":
            return self._cut_done(row)
        return self._give_done(row)

    def _note(self, row, houses):
        """Has these HOUSES from now on, and holds what was ahead of the row."""
        self._past.append((row, self._houses))
        self._houses = houses

    def _taken_back(self, times):
        """Takes back so many rows, the last one first."""
        rows = []
        for _ in range(times):
            row, houses = self._past.pop()
            self._houses = houses
            rows.append(row)
        return tuple(rows)

    def _beat_done(self, row):
        houses = tuple([beaten(self._works, house) for house in self._houses])
        for house in houses:
            if not self._known.is_kept(house.stand):
                raise NoKeep(row)
        self._note(row, houses)
        return tuple([(house.name, house.comes[-1]) for house in houses])

    def _deed_done(self, row):
        _, name, deed = row
        at = self._place(name)
        house = done_in(self._works, self._houses[at], deed, row)
        if not self._known.is_safe(house.stand):
            raise NoKeep(row)
        self._note(row, put_at(self._houses, at, house))
        return house.stand

    def _strike_done(self, row):
        _, name, strike = row
        at = self._place(name)
        if not self._houses[at].is_ready:
            raise NoDeed(strike, "late")
        house = struck_in(self._works, self._houses[at], strike, row)
        self._note(row, put_at(self._houses, at, house))
        return house.stand

    def _cut_done(self, row):
        _, name, fresh, lot = row
        at = self._place(name)
        if self.has(fresh):
            raise NoHouse(fresh)
        left = left_of(self._works, self._houses[at].stand, lot)
        if left is None:
            raise NoDeed(row, "lot")
        daughter = daughter_of(self._works, self._houses[at].stand, lot)
        if not self._known.is_safe(left) or not self._known.is_safe(daughter):
            raise NoKeep(row)
        house = sent_from(self._houses[at], left, lot, row)
        founded = new_house(self._works, fresh, daughter, is_ready=False, rows=(row,))
        self._note(row, put_at(self._houses, at, house) + (founded,))
        return daughter

    def _give_done(self, row):
        _, name, other, lot = row
        at = self._place(name)
        to = self._place(other)
        if at == to:
            raise NoDeed(row, "self")
        left = left_of(self._works, self._houses[at].stand, lot)
        if left is None:
            raise NoDeed(row, "lot")
        if not self._known.is_safe(left):
            raise NoKeep(row)
        house = sent_from(self._houses[at], left, lot, row)
        more = given_to(self._works, self._houses[to], lot, row)
        self._note(row, put_at(put_at(self._houses, at, house), to, more))
        return more.stand
