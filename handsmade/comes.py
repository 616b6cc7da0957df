"""In how many beats a GOOD can come from a STAND, whatever is done, and by which QUIET ROW."""

from handsmade.bounds import MOST
from handsmade.leads import Leads
from handsmade.standrows import BEAT
from handsmade.webs import gone_through


def first_bringing(leads, ahead, good):
    """The first STAND, as a web is come to, from which the GOOD COMES in the next beat, None where none is."""
    for stand in ahead:
        if any([good in comes for _, comes in leads.led(stand)]):
            return stand
    return None


def way_to(ahead, stand):
    """The STANDS, beat by beat, by which the web comes to this one, itself the last."""
    way = []
    while stand is not None:
        way.append(stand)
        stand = ahead[stand]
    return way[::-1]


def way_to_bringing(leads, stand, good, most):
    """The fewest STANDS, beat by beat, from this one to one from which the GOOD COMES next, () where none is."""
    ahead = gone_through(leads, stand, most=most, quiet=True)
    last = first_bringing(leads, ahead, good)
    return way_to(ahead, last)


def beats_to(works, stand, good, *, most=MOST):
    """The fewest beats of a QUIET ROW in the last of which the GOOD COMES, None where there is none."""
    way = way_to_bringing(Leads(works), stand, good, most)
    return len(way) if way != [] else None


def bringing_turn(leads, stand, good):
    """A TURN behind which the GOOD COMES in the BEAT."""
    for there, comes in leads.led(stand):
        if good in comes:
            return leads.turn_to(stand, there, good)
    return None


def quiet_row(works, stand, good, *, most=MOST):
    """A QUIET ROW of the fewest beats in the last of which the GOOD COMES, None where there is none."""
    leads = Leads(works)
    way = way_to_bringing(leads, stand, good, most)
    if way == []:
        return None
    row = ()
    for here, there in zip(way, way[1:]):
        row += leads.turn_to(here, there, None) + (BEAT,)
    return row + bringing_turn(leads, way[-1], good) + (BEAT,)
