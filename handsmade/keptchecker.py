"""Looks at any thing as a KEPT PAPER or a LOST PAPER of a STAND."""

from handsmade.acts import is_deed, is_strike
from handsmade.errors import NoPaper, NoRow
from handsmade.goods import goods_of
from handsmade.kinds import is_number, is_number_from, is_tuple_of
from handsmade.leads import Leads
from handsmade.order import is_no_less
from handsmade.standchecker import is_right_stand
from handsmade.strikes import struck_so, ways_of
from handsmade.turns import turn_led


def has_shape(thing):
    """Whether it is a pair of one of both words and a tuple, of pairs or of tuples of four."""
    if not is_tuple_of(thing, 2) or not isinstance(thing[1], tuple):
        return False
    if thing[0] == "kept":
        return all([is_tuple_of(row, 2) for row in thing[1]])
    return thing[0] == "lost" and all([is_tuple_of(row, 4) for row in thing[1]])


def is_duty(thing, many):
    """Whether it is a pair of a NUMBER from 1 on and a tuple of so many tuples."""
    if not is_tuple_of(thing, 2) or not is_number_from(thing[0], 1) or not is_tuple_of(thing[1], many):
        return False
    return all([isinstance(turn, tuple) for turn in thing[1]])


def is_turn(works, stand, thing):
    """Whether a tuple is a TURN of the STAND."""
    if not all([is_deed(deed) for deed in thing]):
        return False
    try:
        turn_led(works, stand, thing)
    except NoRow:
        return False
    return True


def look_at_kept_row(works, k, stand, duties):
    """Refuses what is no row of a KEPT PAPER by itself."""
    if not is_right_stand(works, stand):
        raise NoPaper("stand", k)
    ways = ways_of(works, stand)
    if not is_tuple_of(duties, len(goods_of(works))) or not all([is_duty(duty, len(ways)) for duty in duties]):
        raise NoPaper("goods", k)
    for g, (_, turns) in enumerate(duties):
        for i, (way, turn) in enumerate(zip(ways, turns)):
            if not is_turn(works, struck_so(works, stand, way), turn):
                raise NoPaper("turn", (k, g, i))


def look_at_lost_row(works, k, row):
    """Refuses what is no row of a LOST PAPER by itself."""
    stand, number, good, way = row
    if not is_right_stand(works, stand):
        raise NoPaper("stand", k)
    if not is_number(number):
        raise NoPaper("number", k)
    if good not in goods_of(works):
        raise NoPaper("good", k)
    if way is not None and (not is_strike(way) or way not in ways_of(works, stand)):
        raise NoPaper("way", k)


class Compared:
    """The rows of a paper, and which of their STANDS are NO MORE, or NO LESS, than another one: told but once each."""

    def __init__(self, rows):
        self._rows = list(rows)
        self._under = {}
        self._over = {}

    def under(self, stand):
        """The rows whose STAND is NO MORE than this one."""
        if stand not in self._under:
            self._under[stand] = [row for row in self._rows if is_no_less(stand, row[0])]
        return list(self._under[stand])

    def over(self, stand):
        """The rows whose STAND is NO LESS than this one."""
        if stand not in self._over:
            self._over[stand] = [row for row in self._rows if is_no_less(row[0], stand)]
        return list(self._over[stand])


def leads_as_kept(compared, led, g, good, number):
    """Whether what a TURN leads to is as a KEPT PAPER tells, by a row of this number for GOOD number g."""
    behind, comes = led
    for _, duties in compared.under(behind):
        if good in comes or duties[g][0] < number:
            return True
    return False


def look_at_kept_leads(works, compared, k, stand, duties):
    """Refuses a row of a KEPT PAPER of which a TURN leads elsewhere."""
    ways = ways_of(works, stand)
    for g, (good, (number, turns)) in enumerate(zip(goods_of(works), duties)):
        for i, (way, turn) in enumerate(zip(ways, turns)):
            led = turn_led(works, struck_so(works, stand, way), turn)
            if not leads_as_kept(compared, led, g, good, number):
                raise NoPaper("leads", (k, g, i))


def leads_as_lost(compared, led, number, good):
    """Whether what a TURN leads to is as a LOST PAPER tells, by a row of this number and GOOD."""
    behind, comes = led
    for _, other, what, _ in compared.over(behind):
        if other < number or (other == number and what == good and good not in comes):
            return True
    return False


def look_at_lost_leads(leads, compared, k, place, number, good):
    """Refuses a row of a LOST PAPER of which a TURN leads elsewhere from the STAND STRUCK in its WAY."""
    for led in leads.led(place):
        if not leads_as_lost(compared, led, number, good):
            raise NoPaper("leads", k)


def look_at_kept(works, stand, rows):
    """Refuses rows that make no KEPT PAPER of the STAND."""
    for k, (there, duties) in enumerate(rows):
        look_at_kept_row(works, k, there, duties)
    compared = Compared(rows)
    for k, (there, duties) in enumerate(rows):
        look_at_kept_leads(works, compared, k, there, duties)
    if compared.under(stand) == []:
        raise NoPaper("asked", -1)


def look_at_lost(works, stand, rows):
    """Refuses rows that make no LOST PAPER of the STAND."""
    for k, row in enumerate(rows):
        look_at_lost_row(works, k, row)
    leads = Leads(works)
    compared = Compared(rows)
    for k, (there, number, good, way) in enumerate(rows):
        look_at_lost_leads(leads, compared, k, struck_so(works, there, way), number, good)
    if compared.over(stand) == []:
        raise NoPaper("asked", -1)


def lets_kept(works, stand, thing):
    """The word of a KEPT PAPER or a LOST PAPER; any other thing is refused by the first reason."""
    if not has_shape(thing):
        raise NoPaper("shape", -1)
    word, rows = thing
    if word == "kept":
        look_at_kept(works, stand, rows)
    else:
        look_at_lost(works, stand, rows)
    return word
