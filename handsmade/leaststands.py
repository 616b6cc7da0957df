"""The least STANDS that are KEPT, of those without makings."""

from math import comb

from handsmade.bounds import MOST
from handsmade.covers import least_for
from handsmade.errors import NoMore
from handsmade.glow import light_choices
from handsmade.known import Known
from handsmade.stands import put_at


def one_fewer(counts):
    """All tuples that are this one of NUMBERS but for one of them, which is one less."""
    return [put_at(counts, k, many - 1) for k, many in enumerate(counts) if many > 0]


def dimmer(lights):
    """All LIGHTS that are these but for one, which has a light less, or is gone where it is dark."""
    found = []
    for light in sorted(set(lights)):
        # Of twins the last one goes down, so that the LIGHTS fall still.
        at = lights.index(light) + lights.count(light) - 1
        if light > 0:
            found.append(put_at(lights, at, light - 1))
        else:
            found.append(lights[:at])
    return found


def lowered(works, stand):
    """The STANDS that are this one but for one use, grain, light or dark leaf, rising."""
    uses, leaves, store = stand[:3]
    found = [put_at(stand, 0, less) for less in one_fewer(uses)]
    for k in range(len(works[0])):
        found.extend([put_at(stand, 1, put_at(leaves, k, less)) for less in dimmer(leaves[k])])
    if store > 0:
        found.append(put_at(stand, 2, store - 1))
    return tuple(sorted(found))


def tuples_of(things, many):
    """All tuples of so many of these things, each perhaps more than once."""
    rows = [()]
    for _ in range(many):
        rows = [row + (thing,) for row in rows for thing in things]
    return rows


def bare_count(works):
    """How many BARE STANDS of one phase and rest there are."""
    uses, sheets, bright, store = works[3]
    count = store + 1
    for _ in works[0]:
        count *= (uses + 1) * comb(sheets + bright + 1, sheets)
    return count


def bare_stands(works, phase, rest):
    """All BARE STANDS of a phase and a rest."""
    uses, sheets, bright, store = works[3]
    kinds = len(works[0])
    every = tuple([light for light in range(bright + 1) for _ in range(sheets)])
    rows = [lights for many in range(sheets + 1) for lights in light_choices(every, many)]
    return [
        (counts, leaves, stuff, (), phase, rest)
        for counts in tuples_of(list(range(uses + 1)), kinds)
        for leaves in tuples_of(rows, kinds)
        for stuff in range(store + 1)
    ]


def least_stands(works, *, phase, rest, most=MOST):
    """The LEAST STANDS of a phase and a rest, rising; more BARE ones, or a WEB with more, than most are refused."""
    if bare_count(works) > most:
        raise NoMore(most)
    known = Known(works, most)
    kept = {stand: True for stand in bare_stands(works, phase, rest) if known.is_kept(stand)}
    return tuple(sorted({least for least in least_for(kept).values()}))
