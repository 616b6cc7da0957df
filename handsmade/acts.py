"""What a GOOD, a DEED and a STRIKE are: by kind alone, whatever WORDS and NUMBERS stand in them."""

from handsmade.kinds import is_lights, is_number, is_tuple_of, is_word


def is_good(thing):
    """Whether it is ("tool", name) or ("leaf", name)."""
    return is_tuple_of(thing, 2) and thing[0] in ("tool", "leaf") and is_word(thing[1])


def is_agreed(thing, agreed):
    """Whether it is LIGHTS as an "agree" has: so many as agreed tells, two or more where that is None."""
    if not is_lights(thing):
        return False
    if agreed is None:
        return len(thing) >= 2
    return len(thing) == agreed


def is_deed(thing, *, agreed=None):
    """Whether it is a "make", a "copy", an "agree" or a "break"."""
    if is_tuple_of(thing, 2):
        return thing[0] == "break" and is_number(thing[1])
    if not is_tuple_of(thing, 3) or not is_word(thing[1]):
        return False
    if thing[0] == "agree":
        return is_agreed(thing[2], agreed)
    return thing[0] in ("make", "copy") and is_number(thing[2])


def is_strike(thing):
    """Whether it is a strike at a tool, a leaf, a making or the stuff."""
    if is_tuple_of(thing, 1):
        return thing[0] == "stuff"
    if is_tuple_of(thing, 2):
        if thing[0] == "tool":
            return is_word(thing[1])
        return thing[0] == "making" and is_number(thing[1])
    return is_tuple_of(thing, 3) and thing[0] == "leaf" and is_word(thing[1]) and is_number(thing[2])
