"""Looks at any thing as a BIRTH ROW of a STOCK."""

from handsmade.errors import NoPaper
from handsmade.goods import goods_of
from handsmade.hangs import hangs_within


def lets_birth(works, stock, thing):
    """How many GOODS the BIRTH ROW has; any other thing is refused by the first reason."""
    goods = goods_of(works)
    if not isinstance(thing, tuple) or not all([good in goods for good in thing]):
        raise NoPaper("shape", -1)
    for k, good in enumerate(thing):
        ahead = thing[:k]
        if good in ahead:
            raise NoPaper("twice", k)
        if not hangs_within(works, good, tuple(stock) + ahead):
            raise NoPaper("asks", k)
    return len(thing)
