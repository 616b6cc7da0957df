"""BUNCH DEEDS: what can be done with bare leaves of one KIND."""

from handsmade.acts import is_agreed
from handsmade.errors import NoRow
from handsmade.glow import light_choices, with_lights, without_lights


def bunch_deeds(lights, *, many, bright):
    """All BUNCH DEEDS that can be DONE at a BUNCH, rising."""
    found = [("agree", chosen) for chosen in light_choices(lights, many)]
    for light in sorted(set(lights)):
        if light > 0:
            found.extend([("make", light), ("copy", light)])
    return tuple(sorted(found))


def dimmed(lights, deed):
    """The BUNCH behind a "make" or a "copy", None where no such leaf is there, or it is dark."""
    word, light = deed
    if light == 0 or light not in lights:
        return None
    more = (light - 1,) if word == "make" else (light - 1, light - 1)
    return with_lights(without_lights(lights, (light,)), more)


def agreed_on(lights, chosen, many, bright):
    """The BUNCH behind an "agree", None where not all these LIGHTS are there."""
    left = without_lights(lights, chosen)
    if left is None or not is_agreed(chosen, many):
        return None
    return with_lights(left, (bright,))


def bunch_done(lights, deed, *, many, bright):
    """The BUNCH behind a BUNCH DEED, None where it can't be."""
    if deed[0] == "agree":
        return agreed_on(lights, deed[1], many, bright)
    return dimmed(lights, deed)


def bunch_run(lights, row, *, many, bright):
    """The BUNCHES on the way of a BUNCH ROW: the first one, and that behind each."""
    bunches = [lights]
    for k, deed in enumerate(row):
        behind = bunch_done(bunches[-1], deed, many=many, bright=bright)
        if behind is None:
            raise NoRow(k, "leaf")
        bunches.append(behind)
    return tuple(bunches)


def copied_out(lights):
    """A BUNCH ROW of "copy"s alone, behind which all leaves are dark."""
    row = []
    while max(lights, default=0) > 0:
        # The brightest goes first, so the last one copied is of light 1.
        deed = ("copy", max(lights))
        row.append(deed)
        lights = dimmed(lights, deed)
    return tuple(row)
