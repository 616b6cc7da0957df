"""DEEDS at a STAND: by what one is BARRED, the STAND behind it, and all that can be DONE."""

from handsmade.acts import is_agreed
from handsmade.errors import NoDeed
from handsmade.glow import light_choices, with_lights, without_lights
from handsmade.goods import kind_called, place_called, terms_of
from handsmade.stands import put_at, without_making


def lights_behind(works, lights, deed):
    """The LIGHTS left of the leaves that a deed is done by, None where these aren't there."""
    word, _, by = deed
    if word == "agree":
        if not is_agreed(by, works[2][0]):
            return None
        return without_lights(lights, by)
    if by == 0 or by not in lights:
        return None
    return with_lights(without_lights(lights, (by,)), (by - 1,))


def asks_of(works, deed):
    """The uses that a deed asks."""
    if deed[0] == "make":
        return kind_called(works, deed[1])[1]
    if deed[0] == "copy":
        return works[1][0]
    return ()


def made_by(works, deed):
    """The thing that a deed sets on the benches."""
    word, name, by = deed
    if word == "make":
        return ("tool", name)
    if word == "copy":
        return ("leaf", name, by - 1)
    return ("leaf", name, works[3][2])


def uses_behind(works, uses, asks):
    """The uses left behind those that are asked, None where there are fewer."""
    left = list(uses)
    for name, many in asks:
        k = place_called(works, name)
        if left[k] < many:
            return None
        left[k] -= many
    return tuple(left)


def barred_by(works, stand, deed):
    """The word by which a deed is BARRED at the STAND, None where it isn't."""
    uses, leaves, store, makings = stand[:4]
    if deed[0] == "break":
        return None if deed[1] < len(makings) else "making"
    k = place_called(works, deed[1])
    if k is None:
        return "kind"
    if len(makings) >= works[6]:
        return "bench"
    if lights_behind(works, leaves[k], deed) is None:
        return "leaf"
    if uses_behind(works, uses, asks_of(works, deed)) is None:
        return "tool"
    if store < terms_of(works, made_by(works, deed))[0]:
        return "stuff"
    return None


def done(works, stand, deed):
    """The STAND behind a deed; one that is BARRED is refused."""
    why = barred_by(works, stand, deed)
    if why is not None:
        raise NoDeed(deed, why)
    if deed[0] == "break":
        return without_making(stand, deed[1])
    uses, leaves, store, makings, phase, rest = stand
    k = place_called(works, deed[1])
    thing = made_by(works, deed)
    takes, beats = terms_of(works, thing)
    return (
        uses_behind(works, uses, asks_of(works, deed)),
        put_at(leaves, k, lights_behind(works, leaves[k], deed)),
        store - takes,
        tuple(sorted(makings + ((thing, beats),))),
        phase,
        rest,
    )


def deeds_by(works, name, lights):
    """All DEEDS of a KIND that its leaves are there for."""
    found = [("agree", name, chosen) for chosen in light_choices(lights, works[2][0])]
    for light in sorted(set(lights)):
        found.extend([("make", name, light), ("copy", name, light)])
    return found


def deeds_at(works, stand):
    """All DEEDS that aren't BARRED at the STAND, rising."""
    found = [("break", j) for j in range(len(stand[3]))]
    for kind, lights in zip(works[0], stand[1]):
        found.extend(deeds_by(works, kind[0], lights))
    return tuple(sorted([deed for deed in found if barred_by(works, stand, deed) is None]))
