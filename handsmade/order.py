"""Which STAND is NO LESS than another one, and how its makings are paired with the other's."""

from handsmade.errors import NoPaper
from handsmade.glow import bunch_covers
from handsmade.standchecker import are_numbers


def making_covers(one, other):
    """Whether one making has the same left, and is of the same thing or of a leaf of no less light."""
    thing, left = one
    what, beats = other
    if left != beats or thing[:2] != what[:2]:
        return False
    return thing[0] == "tool" or thing[2] >= what[2]


def last_to_pair(makings, other, paired):
    """The number of the last making that may be paired with the other one and isn't yet, None where none is."""
    for k in reversed(range(len(makings))):
        if k not in paired and making_covers(makings[k], other):
            return k
    return None


def pairing(stand, other):
    """A PAIRING of both STANDS, None where there is none."""
    numbers = []
    # Makings rise by light: from the last one back the brightest leaf of the other is paired first, with
    # the brightest there is, so that none is lacking then for want of a light that was spent on a lesser one.
    for making in other[3][::-1]:
        k = last_to_pair(stand[3], making, numbers)
        if k is None:
            return None
        numbers.append(k)
    return tuple(numbers[::-1])


def lets_pairing(stand, other, thing):
    """True of a PAIRING of both STANDS; any other thing is refused by the first reason."""
    if not are_numbers(thing):
        raise NoPaper("shape", -1)
    if len(thing) != len(other[3]):
        raise NoPaper("many", -1)
    for j, k in enumerate(thing):
        if k >= len(stand[3]) or k in thing[:j]:
            raise NoPaper("number", j)
    for j, k in enumerate(thing):
        if not making_covers(stand[3][k], other[3][j]):
            raise NoPaper("pair", j)
    return True


def is_no_less(stand, other):
    """Whether the STAND is NO LESS than the other one."""
    uses, leaves, store, _, phase, rest = stand
    if phase != other[4] or rest < other[5] or store < other[2]:
        return False
    if not all([many >= less for many, less in zip(uses, other[0])]):
        return False
    if not all([bunch_covers(lights, less) for lights, less in zip(leaves, other[1])]):
        return False
    return pairing(stand, other) is not None
