"""What hangs on what in a WORKS, and the rings of what hangs on itself."""

from handsmade.goods import goods_of, kind_called


def hangs_straight(works, good):
    """The GOODS on which this one HANGS STRAIGHT, rising."""
    what, name = good
    if what == "leaf":
        asks = works[1][0]
    else:
        asks = kind_called(works, name)[1]
    return tuple(sorted([("leaf", name)] + [("tool", word) for word, _ in asks]))


def hangs_on(works, good):
    """All GOODS on which this one HANGS, straight or by others, rising."""
    found = list(hangs_straight(works, good))
    k = 0
    while k < len(found):
        ons = hangs_straight(works, found[k])
        for other in ons:
            if other not in found:
                found.append(other)
        k += 1
    return tuple(sorted(found))


def hangs_within(works, good, there):
    """Whether all on which this one HANGS STRAIGHT is among what is there."""
    return all([other in there for other in hangs_straight(works, good)])


def rings_of(works):
    """All RINGS, rising, each a rising tuple of the GOODS that HANG on one another."""
    hung = {good: hangs_on(works, good) for good in goods_of(works)}
    rings = []
    for good, ons in hung.items():
        if good in ons:
            ring = tuple([other for other in ons if good in hung[other]])
            if ring not in rings:
                rings.append(ring)
    return tuple(sorted(rings))
