"""Looks at any thing as a DRY PAPER of a WORKS."""

from handsmade.errors import NoPaper
from handsmade.goods import place_called
from handsmade.kinds import is_number, is_tuple_of
from handsmade.standchecker import are_numbers


def has_shape(works, thing):
    """Whether it is a triple of a NUMBER and two tuples of a NUMBER for each KIND."""
    if not is_tuple_of(thing, 3) or not is_number(thing[0]):
        return False
    many = len(works[0])
    return all([is_tuple_of(part, many) and are_numbers(part) for part in thing[1:]])


def make_is_dry(works, k, stuff, uses, glow):
    """Whether what a "make" of KIND number k takes weighs no less than what it brings."""
    _, asks, takes, _, gives, back = works[0][k]
    asked = sum([many * uses[place_called(works, name)] for name, many in asks])
    return asked + takes * stuff + glow[k] >= gives * uses[k] + back * stuff


def agree_is_dry(works, k, stuff, glow):
    """Whether what an "agree" of KIND number k takes weighs no less than the leaf that it brings."""
    many, takes, _ = works[2]
    return takes * stuff + many * glow[k] >= glow[k] << works[3][2]


def lets_dry(works, thing):
    """The least weight that isn't 0 of a DRY PAPER; any other thing is refused by the first reason."""
    if not has_shape(works, thing):
        raise NoPaper("shape", -1)
    stuff, uses, glow = thing
    kinds = range(len(works[0]))
    for k in kinds:
        if glow[k] == 0:
            raise NoPaper("glow", k)
    for k in kinds:
        if not make_is_dry(works, k, stuff, uses, glow):
            raise NoPaper("make", k)
    for k in kinds:
        if not agree_is_dry(works, k, stuff, glow):
            raise NoPaper("agree", k)
    least = min([weight for weight in (stuff,) + uses + glow if weight > 0])
    flow, drip = works[4]
    if drip * least <= flow * stuff * works[5][1]:
        raise NoPaper("strikes", -1)
    return least
