"""The NEXT of a STAND, and its WEBS: the quiet one, and that in which it is STRUCK."""

from handsmade.bounds import MOST
from handsmade.errors import NoMore
from handsmade.leads import Leads


def next_of(works, stand):
    """The NEXT of the STAND, rising."""
    return tuple(sorted(Leads(works).nexts(stand)))


def gone_through(leads, stand, *, most, quiet, beyond=()):
    """Of each STAND of a WEB, as they are come to beat by beat, the one from which it is first (None of the first).

    Those beyond are left out, and what can be come to by them alone. More than most are refused.
    """
    ahead = {stand: None}
    order = [stand]
    k = 0
    while k < len(order):
        if len(order) > most:
            raise NoMore(most)
        here = order[k]
        nexts = leads.nexts(here) if quiet else leads.nexts_struck(here)
        for there in nexts:
            if there not in ahead and there not in beyond:
                ahead[there] = here
                order.append(there)
        k += 1
    return ahead


def quiet_web(works, stand, *, most=MOST):
    """The QUIET WEB of the STAND, rising; one with more than most is refused."""
    return tuple(sorted(gone_through(Leads(works), stand, most=most, quiet=True)))


def whole_web(works, stand, *, most=MOST):
    """The WEB of the STAND, rising; one with more than most is refused."""
    return tuple(sorted(gone_through(Leads(works), stand, most=most, quiet=False)))
