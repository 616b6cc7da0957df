"""What is KEPT, whatever the FOE does, and what FALLS."""

from handsmade.bounds import MOST
from handsmade.known import Known
from handsmade.leads import Leads
from handsmade.rounds import Rounds
from handsmade.webs import gone_through


def rounds_of(works, leads, stand, most):
    """The rounds over the WEB of the STAND; one with more than most is refused."""
    web = gone_through(leads, stand, most=most, quiet=False)
    return Rounds(works, leads, list(web), {})


def kept_within(works, stand, *, most=MOST):
    """The KEPT STANDS of the WEB of this one, each with its HEIGHTS, rising."""
    return tuple(sorted(rounds_of(works, Leads(works), stand, most).heights.items()))


def fallen_within(works, stand, *, most=MOST):
    """The FALLEN STANDS of the WEB of this one, each with its round, rising."""
    rounds = rounds_of(works, Leads(works), stand, most)
    return tuple(sorted([(there, number) for there, (number, _) in rounds.fallen.items()]))


def is_kept(works, stand, *, most=MOST):
    """Whether the STAND is KEPT."""
    return Known(works, most).is_kept(stand)


def is_safe(works, stand, *, most=MOST):
    """Whether the STAND, amid a beat, too, is SAFE."""
    known = Known(works, most)
    # The WEB that is bounded is that of the STAND itself, which has all its NEXT.
    known.is_kept(stand)
    return known.is_safe(stand)
