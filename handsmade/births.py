"""What can ever be made and copied from a STOCK, in which order, and the least STOCKS from which all can."""

from itertools import combinations

from handsmade.goods import goods_of
from handsmade.hangs import hangs_within


def birth_row(works, stock):
    """A BIRTH ROW of all that is in EVER of the STOCK."""
    row = []
    grows = True
    while grows:
        grows = False
        for good in goods_of(works):
            if good not in row and hangs_within(works, good, list(stock) + row):
                row.append(good)
                grows = True
    return tuple(row)


def ever_come(works, stock):
    """EVER of the STOCK, rising."""
    return tuple(sorted(birth_row(works, stock)))


def has_all(things, others):
    """Whether all the others are among these things."""
    return all([other in things for other in others])


def starts_of(works):
    """All STARTS, rising."""
    goods = goods_of(works)
    # A leaf HANGS STRAIGHT on itself, so it comes from a STOCK that has it alone: each START has all leaves.
    leaves = tuple([good for good in goods if good[0] == "leaf"])
    ever = ever_come(works, leaves)
    # A tool that comes of the leaves alone would stand in a START for nothing.
    tools = [good for good in goods if good not in leaves and good not in ever]
    starts = []
    # What has less is met ahead of what has more, so a START needs but to have no other one within it.
    for many in range(len(tools) + 1):
        for chosen in combinations(tools, many):
            stock = leaves + chosen
            if not any([has_all(stock, start) for start in starts]) and ever_come(works, stock) == goods:
                starts.append(stock)
    return tuple(sorted(starts))
