"""A KEEPER made anew from a LOG."""

from handsmade.keeper import Keeper


def replayed(log):
    """A KEEPER to which the deeds of a LOG were done; the first refusal comes."""
    _, works, stand = log[0]
    keeper = Keeper(works, stand)
    keeper.do_all(log[1:])
    return keeper
