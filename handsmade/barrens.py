"""What can never be made or copied from a STOCK."""

from handsmade.births import ever_come
from handsmade.goods import goods_of


def barren_goods(works, stock):
    """The greatest BARREN SET of the STOCK: all that are neither of it nor in its EVER, rising."""
    ever = ever_come(works, stock)
    return tuple([good for good in goods_of(works) if good not in stock and good not in ever])
