"""BUNCHES: the LIGHTS of leaves of one KIND, as they fall."""

from handsmade.kinds import is_lights


def is_bunch(thing):
    """Whether it is a BUNCH: a falling tuple, perhaps (), of NUMBERS."""
    return is_lights(thing)


def glow_of(lights):
    """The GLOW: 2 ** light of each, added."""
    return sum([1 << light for light in lights])


def bunch_covers(one, other):
    """Whether the one is NO LESS than the other: as many LIGHTS or more, and one by one no less."""
    if len(one) < len(other):
        return False
    return all([light >= less for light, less in zip(one, other)])


def with_lights(lights, more):
    """The BUNCH with these LIGHTS more."""
    return tuple(sorted(lights + more, reverse=True))


def without_lights(lights, gone):
    """The BUNCH without these LIGHTS, another one for each, None where not all are there."""
    left = list(lights)
    for light in gone:
        if light not in left:
            return None
        left.remove(light)
    return tuple(left)


def light_choices(lights, many):
    """All falling tuples of so many of these LIGHTS, each once."""
    chosen = [()]
    for light in sorted(set(lights))[::-1]:
        there = lights.count(light)
        chosen = [part + (light,) * n for part in chosen for n in range(min(there, many - len(part)) + 1)]
    return [part for part in chosen if len(part) == many]
