"""Looks at any thing as a BARREN SET of a STOCK."""

from handsmade.errors import NoPaper
from handsmade.goods import goods_of
from handsmade.hangs import hangs_straight
from handsmade.kinds import is_rising


def is_set_of(goods, thing):
    """Whether it is a rising tuple of these GOODS."""
    if not isinstance(thing, tuple) or not all([good in goods for good in thing]):
        return False
    return is_rising(thing)


def lets_barren_goods(works, stock, thing):
    """How many GOODS the BARREN SET has; any other thing is refused by the first reason."""
    if not is_set_of(goods_of(works), thing):
        raise NoPaper("shape", -1)
    for k, good in enumerate(thing):
        if good in stock:
            raise NoPaper("there", k)
        if not any([other in thing for other in hangs_straight(works, good)]):
            raise NoPaper("free", k)
    return len(thing)
