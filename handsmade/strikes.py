"""STRIKES at a STAND: all that can be made, and the STAND behind one; the WAYS in which it may be STRUCK."""

from handsmade.errors import NoDeed
from handsmade.glow import without_lights
from handsmade.goods import place_called
from handsmade.stands import put_at, without_making


def strikes_at(works, stand):
    """All STRIKES that can be made at the STAND, rising."""
    uses, leaves, store, makings, _, rest = stand
    if rest != 0:
        return ()
    found = [("making", j) for j in range(len(makings))]
    if store > 0:
        found.append(("stuff",))
    for kind, many, lights in zip(works[0], uses, leaves):
        if many > 0:
            found.append(("tool", kind[0]))
        found.extend([("leaf", kind[0], light) for light in sorted(set(lights))])
    return tuple(sorted(found))


def refused_by(works, stand, strike):
    """The word by which a strike is refused at the STAND, None where it isn't."""
    if stand[5] != 0:
        return "rest"
    if strike[0] in ("tool", "leaf") and place_called(works, strike[1]) is None:
        return "kind"
    if strike not in strikes_at(works, stand):
        return "gone"
    return None


def struck(works, stand, strike):
    """The STAND behind a strike; one that can't be made is refused."""
    why = refused_by(works, stand, strike)
    if why is not None:
        raise NoDeed(strike, why)
    blow, rest = works[5]
    stand = put_at(stand, 5, rest)
    if strike[0] == "making":
        return without_making(stand, strike[1])
    if strike[0] == "stuff":
        return put_at(stand, 2, max(stand[2] - blow, 0))
    k = place_called(works, strike[1])
    if strike[0] == "tool":
        return put_at(stand, 0, put_at(stand[0], k, max(stand[0][k] - blow, 0)))
    return put_at(stand, 1, put_at(stand[1], k, without_lights(stand[1][k], (strike[2],))))


def ways_of(works, stand):
    """The WAYS of the STAND: None, then its STRIKES, rising."""
    return (None,) + strikes_at(works, stand)


def struck_so(works, stand, way):
    """The STAND as it is STRUCK in a WAY of it."""
    if way is None:
        return stand
    return struck(works, stand, way)
