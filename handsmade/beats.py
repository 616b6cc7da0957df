"""The BEAT: the STAND behind it, and what COMES."""

from handsmade.glow import with_lights
from handsmade.goods import place_called
from handsmade.stands import put_at


def tool_ended(works, stand, name):
    """The STAND with what comes of a tool that ENDs: its uses, and its back."""
    bounds = works[3]
    k = place_called(works, name)
    _, _, _, _, gives, back = works[0][k]
    uses = put_at(stand[0], k, min(stand[0][k] + gives, bounds[0]))
    return put_at(put_at(stand, 0, uses), 2, min(stand[2] + back, bounds[3]))


def leaf_ended(works, stand, name, light):
    """The STAND with a leaf that ENDs; where there are more than sheets then the last of its row goes."""
    k = place_called(works, name)
    lights = with_lights(stand[1][k], (light,))[:works[3][1]]
    return put_at(stand, 1, put_at(stand[1], k, lights))


def makings_ended(works, stand):
    """The STAND behind one beat of its makings, and the GOODS that come of those that END, rising."""
    makings = stand[3]
    ended = [thing for thing, left in makings if left == 1]
    stand = put_at(stand, 3, tuple([(thing, left - 1) for thing, left in makings if left > 1]))
    for thing in ended:
        if thing[0] == "tool":
            stand = tool_ended(works, stand, thing[1])
        else:
            stand = leaf_ended(works, stand, thing[1], thing[2])
    return stand, tuple(sorted({thing[:2] for thing in ended if thing[0] == "tool" or thing[2] > 0}))


def time_passed(works, stand):
    """The STAND behind what a beat does aside from the makings: its phase, with the flow, and its rest."""
    uses, leaves, store, makings, phase, rest = stand
    flow, drip = works[4]
    phase -= 1
    if phase == 0:
        store = min(store + flow, works[3][3])
        phase = drip
    return uses, leaves, store, makings, phase, max(rest - 1, 0)


def beat_passed(works, stand):
    """The STAND behind the BEAT, and what COMES."""
    ended, comes = makings_ended(works, stand)
    return time_passed(works, ended), comes
