"""Looks at any thing as a STAND of a WORKS."""

from handsmade.errors import NoPaper
from handsmade.goods import place_called, terms_of
from handsmade.kinds import is_lights, is_number, is_tuple_of, is_word


def are_numbers(thing):
    """Whether it is a tuple of NUMBERS."""
    return isinstance(thing, tuple) and all([is_number(part) for part in thing])


def is_made_thing(thing):
    """Whether it is ("tool", WORD) or ("leaf", WORD, NUMBER)."""
    if is_tuple_of(thing, 2):
        return thing[0] == "tool" and is_word(thing[1])
    return is_tuple_of(thing, 3) and thing[0] == "leaf" and is_word(thing[1]) and is_number(thing[2])


def is_making(thing):
    """Whether it is a pair of a thing that is made and a NUMBER."""
    return is_tuple_of(thing, 2) and is_made_thing(thing[0]) and is_number(thing[1])


def is_stand(thing):
    """Whether it is a STAND by kind alone, of whatever WORKS, right or not."""
    if not is_tuple_of(thing, 6):
        return False
    uses, leaves, store, makings, phase, rest = thing
    if not are_numbers(uses) or not are_numbers((store, phase, rest)):
        return False
    if not isinstance(leaves, tuple) or not all([are_numbers(lights) for lights in leaves]):
        return False
    return isinstance(makings, tuple) and all([is_making(making) for making in makings])


def look_at_uses(works, uses):
    """Refuses uses that don't fit the WORKS."""
    if len(uses) != len(works[0]):
        raise NoPaper("uses", -1)
    for k, many in enumerate(uses):
        if many > works[3][0]:
            raise NoPaper("uses", k)


def look_at_leaves(works, leaves):
    """Refuses leaves that don't fit the WORKS."""
    _, sheets, bright, _ = works[3]
    if len(leaves) != len(works[0]):
        raise NoPaper("leaves", -1)
    for k, lights in enumerate(leaves):
        if len(lights) > sheets or not is_lights(lights) or max(lights, default=0) > bright:
            raise NoPaper("leaves", k)


def is_right_making(works, making):
    """Whether a making fits the WORKS: of a KIND that it has, no brighter than bright, of 1 to all its beats."""
    thing, left = making
    if place_called(works, thing[1]) is None:
        return False
    if thing[0] == "leaf" and thing[2] > works[3][2]:
        return False
    return 1 <= left <= terms_of(works, thing)[1]


def look_at_makings(works, makings):
    """Refuses makings that don't fit the WORKS, or don't rise."""
    if len(makings) > works[6]:
        raise NoPaper("benches", -1)
    for j, making in enumerate(makings):
        if not is_right_making(works, making) or (j > 0 and making < makings[j - 1]):
            raise NoPaper("making", j)


def lets_stand(works, thing):
    """True of a RIGHT STAND; any other thing is refused by the first reason."""
    if not is_stand(thing):
        raise NoPaper("shape", -1)
    uses, leaves, store, makings, phase, rest = thing
    look_at_uses(works, uses)
    look_at_leaves(works, leaves)
    if store > works[3][3]:
        raise NoPaper("store", -1)
    look_at_makings(works, makings)
    if not 1 <= phase <= works[4][1]:
        raise NoPaper("phase", -1)
    if rest > works[5][1]:
        raise NoPaper("rest", -1)
    return True


def is_right_stand(works, thing):
    """Whether it is a RIGHT STAND of the WORKS."""
    try:
        return lets_stand(works, thing)
    except NoPaper:
        return False
