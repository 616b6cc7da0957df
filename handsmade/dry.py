"""Weights by which a WORKS dries up, so that no STAND of it is KEPT."""

from handsmade.bounds import HIGHEST
from handsmade.drychecker import lets_dry
from handsmade.errors import NoPaper
from handsmade.leaststands import tuples_of


def is_dry(works, weights):
    """Whether these WEIGHTS are a DRY PAPER."""
    try:
        lets_dry(works, weights)
    except NoPaper:
        return False
    return True


def dry_paper(works, *, highest=HIGHEST):
    """A DRY PAPER whose NUMBERS are no more than highest, None where there is none."""
    kinds = len(works[0])
    numbers = list(range(highest + 1))
    # Weights of glow are 1 or more.
    glows = tuples_of(numbers[1:], kinds)
    for stuff in numbers:
        for uses in tuples_of(numbers, kinds):
            for glow in glows:
                if is_dry(works, (stuff, uses, glow)):
                    return stuff, uses, glow
    return None
