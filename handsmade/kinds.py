"""What a NUMBER, a WORD, a KIND, a WORKS and its parts are: by kind alone, whatever bounds there are."""


def is_number(thing):
    """Whether it is an int from 0 on that is no truth."""
    return isinstance(thing, int) and not isinstance(thing, bool) and thing >= 0


def is_number_from(thing, least):
    """Whether it is a NUMBER no less than this one."""
    return is_number(thing) and thing >= least


def is_word(thing):
    """Whether it is a text of one to eight small letters."""
    if not isinstance(thing, str) or not 1 <= len(thing) <= 8:
        return False
    return all(["a" <= sign <= "z" for sign in thing])


def is_tuple_of(thing, many):
    """Whether it is a tuple of so many things."""
    return isinstance(thing, tuple) and len(thing) == many


def is_rising(things):
    """Whether each of these, a row of things that can be sorted, is above the one ahead."""
    return all([one < other for one, other in zip(things, things[1:])])


def is_lights(thing):
    """Whether it is a falling tuple of NUMBERS, perhaps with one twice."""
    if not isinstance(thing, tuple) or not all([is_number(light) for light in thing]):
        return False
    return all([one >= other for one, other in zip(thing, thing[1:])])


def is_ask(thing):
    """Whether it is a pair of a WORD and a NUMBER from 1 on."""
    return is_tuple_of(thing, 2) and is_word(thing[0]) and is_number_from(thing[1], 1)


def is_asks(thing):
    """Whether it is a rising tuple of asks of unlike WORDS."""
    if not isinstance(thing, tuple) or not all([is_ask(ask) for ask in thing]):
        return False
    # The WORDS alone have to rise: pairs of one WORD rise by their NUMBERS, too.
    return is_rising([word for word, _ in thing])


def is_kind(thing):
    """Whether it is a KIND: (name, asks, takes, beats, gives, back)."""
    if not is_tuple_of(thing, 6):
        return False
    name, asks, takes, beats, gives, back = thing
    if not is_word(name) or not is_asks(asks):
        return False
    if not is_number_from(beats, 1) or not is_number_from(gives, 1):
        return False
    return is_number(takes) and is_number(back) and back <= takes


def is_copying(thing):
    """Whether it is a COPYING: (asks, takes, beats)."""
    if not is_tuple_of(thing, 3):
        return False
    asks, takes, beats = thing
    return is_asks(asks) and is_number(takes) and is_number_from(beats, 1)


def is_agreeing(thing):
    """Whether it is an AGREEING: (many, takes, beats)."""
    if not is_tuple_of(thing, 3):
        return False
    many, takes, beats = thing
    return is_number_from(many, 2) and is_number(takes) and is_number_from(beats, 1)


def is_bounds(thing, *, least=2):
    """Whether these are BOUNDS, (uses, sheets, bright, store), with sheets from least on."""
    if not is_tuple_of(thing, 4):
        return False
    uses, sheets, bright, store = thing
    if not is_number_from(uses, 1) or not is_number_from(bright, 1):
        return False
    return is_number_from(sheets, least) and is_number(store)


def is_spring(thing):
    """Whether it is a SPRING: (flow, drip)."""
    return is_tuple_of(thing, 2) and is_number(thing[0]) and is_number_from(thing[1], 1)


def is_foe(thing):
    """Whether it is a FOE: (blow, rest)."""
    return is_tuple_of(thing, 2) and is_number_from(thing[0], 1) and is_number_from(thing[1], 1)


def is_kinds(thing):
    """Whether it is a rising tuple, not a void one, of KINDS of unlike names."""
    if not isinstance(thing, tuple) or thing == ():
        return False
    return all([is_kind(kind) for kind in thing]) and is_rising([kind[0] for kind in thing])


def is_works(thing):
    """Whether it is a WORKS: (kinds, copying, agreeing, bounds, spring, foe, benches)."""
    if not is_tuple_of(thing, 7):
        return False
    kinds, copying, agreeing, bounds, spring, foe, benches = thing
    if not is_kinds(kinds) or not is_copying(copying) or not is_agreeing(agreeing):
        return False
    if not is_bounds(bounds, least=agreeing[0]):
        return False
    return is_spring(spring) and is_foe(foe) and is_number_from(benches, 1)
