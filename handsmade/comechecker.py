"""Looks at any thing as a COME PAPER of a STAND and a GOOD."""

from handsmade.acts import is_deed
from handsmade.beats import beat_passed
from handsmade.covers import Tops
from handsmade.deeds import barred_by, done
from handsmade.errors import NoPaper
from handsmade.kinds import is_tuple_of
from handsmade.leads import Leads
from handsmade.standchecker import is_right_stand
from handsmade.standrows import BEAT
from handsmade.turns import turn_led, turns_of


def look_at_row(works, stand, good, row):
    """Refuses what is no QUIET ROW in the last thing of which the GOOD COMES."""
    comes = ()
    for k, thing in enumerate(row):
        comes = ()
        if thing == BEAT:
            stand, comes = beat_passed(works, stand)
        elif is_deed(thing) and barred_by(works, stand, thing) is None:
            stand = done(works, stand, thing)
        else:
            raise NoPaper("step", k)
    if good not in comes:
        raise NoPaper("end", -1)


def look_at_stands(works, stands):
    """Refuses what are no RIGHT STANDS, rising."""
    for k, there in enumerate(stands):
        if not is_right_stand(works, there):
            raise NoPaper("stand", k)
        if k > 0 and there <= stands[k - 1]:
            raise NoPaper("rise", k)


def look_at_barren(works, stand, good, stands):
    """Refuses STANDS of which one brings the GOOD, or leads to what is NO MORE than none of them."""
    tops = Tops(stands)
    if not tops.has_over(stand):
        raise NoPaper("first", -1)
    leads = Leads(works)
    for k, there in enumerate(stands):
        # Many TURNS lead to the same: one by one they are gone through just where one of them is at fault.
        if all([good not in comes and tops.has_over(behind) for behind, comes in leads.led(there)]):
            continue
        for j, turn in enumerate(turns_of(works, there)):
            behind, comes = turn_led(works, there, turn)
            if good in comes:
                raise NoPaper("comes", (k, j))
            if not tops.has_over(behind):
                raise NoPaper("leaves", (k, j))


def lets_come(works, stand, good, thing):
    """The word of a COME PAPER; any other thing is refused by the first reason."""
    if not is_tuple_of(thing, 2) or not isinstance(thing[1], tuple):
        raise NoPaper("shape", -1)
    word, things = thing
    if word == "row":
        look_at_row(works, stand, good, things)
    elif word == "barren":
        look_at_stands(works, things)
        look_at_barren(works, stand, good, things)
    else:
        raise NoPaper("shape", -1)
    return word
