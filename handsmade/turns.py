"""TURNS: "break"s, then other DEEDS, ahead of the BEAT."""

from handsmade.beats import beat_passed
from handsmade.deeds import barred_by, deeds_at, done
from handsmade.errors import NoRow


def goes_on(turn, deed):
    """Whether a deed can stand behind a TURN: a "break" only behind "break"s."""
    return deed[0] != "break" or turn == () or turn[-1][0] == "break"


def turns_of(works, stand):
    """All TURNS of the STAND, rising."""
    found = [((), stand)]
    k = 0
    while k < len(found):
        turn, there = found[k]
        for deed in deeds_at(works, there):
            if goes_on(turn, deed):
                found.append((turn + (deed,), done(works, there, deed)))
        k += 1
    return tuple(sorted([turn for turn, _ in found]))


def turn_led(works, stand, turn):
    """The STAND to which a TURN and the BEAT lead, and what COMES."""
    for k, deed in enumerate(turn):
        if not goes_on(turn[:k], deed):
            raise NoRow(k, "turn")
        why = barred_by(works, stand, deed)
        if why is not None:
            raise NoRow(k, why)
        stand = done(works, stand, deed)
    return beat_passed(works, stand)
