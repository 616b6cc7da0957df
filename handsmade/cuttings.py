"""CUTTINGS: LOTS that found another works of the same kind."""

from handsmade.bounds import MOST
from handsmade.covers import least_for
from handsmade.glow import light_choices, without_lights
from handsmade.kinds import is_lights, is_number, is_tuple_of
from handsmade.known import Known
from handsmade.standchecker import are_numbers


def is_lot(works, thing):
    """Whether it is a LOT of the WORKS: (uses, leaves, store)."""
    if not is_tuple_of(thing, 3):
        return False
    many = len(works[0])
    most, sheets, bright, stuff = works[3]
    uses, leaves, store = thing
    if not is_tuple_of(uses, many) or not are_numbers(uses) or max(uses) > most:
        return False
    if not is_tuple_of(leaves, many) or not is_number(store) or store > stuff:
        return False
    return all([is_lights(row) and len(row) <= sheets and max(row, default=0) <= bright for row in leaves])


def left_of(works, stand, lot):
    """What is LEFT of the STAND without a LOT, None where any thing is no LOT, or isn't IN it."""
    if not is_lot(works, lot):
        return None
    uses = tuple([there - many for there, many in zip(stand[0], lot[0])])
    leaves = tuple([without_lights(there, lights) for there, lights in zip(stand[1], lot[1])])
    store = stand[2] - lot[2]
    if min(uses) < 0 or None in leaves or store < 0:
        return None
    return (uses, leaves, store) + stand[3:]


def daughter_of(works, stand, lot):
    """The DAUGHTER of a LOT cut from the STAND."""
    return lot + ((), stand[4], works[5][1])


def leaves_kept(known, works, stand, lot):
    """Whether a LOT is IN the STAND, and what is LEFT and the DAUGHTER are KEPT."""
    left = left_of(works, stand, lot)
    return left is not None and known.is_kept(left) and known.is_kept(daughter_of(works, stand, lot))


def may_cut(works, stand, lot, *, most=MOST):
    """Whether a LOT MAY BE CUT from the STAND."""
    return leaves_kept(Known(works, most), works, stand, lot)


def lots_in(stand):
    """All LOTS that are IN the STAND."""
    uses, leaves, store = stand[:3]
    counts = [()]
    rows = [()]
    for many, lights in zip(uses, leaves):
        chosen = [part for length in range(len(lights) + 1) for part in light_choices(lights, length)]
        counts = [count + (n,) for count in counts for n in range(many + 1)]
        rows = [row + (part,) for row in rows for part in chosen]
    return [(count, row, stuff) for count in counts for row in rows for stuff in range(store + 1)]


def least_cuttings(works, stand, *, most=MOST):
    """The LEAST CUTTINGS of the STAND, rising."""
    known = Known(works, most)
    daughters = {
        daughter_of(works, stand, lot): True for lot in lots_in(stand) if leaves_kept(known, works, stand, lot)
    }
    return tuple(sorted({least[:3] for least in least_for(daughters).values()}))
