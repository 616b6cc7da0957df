"""The LEDGER of a ROW: where all the stuff came from, and where it went."""

from handsmade.goods import terms_of
from handsmade.standrows import BEAT, run


def stuff_in(works, stand):
    """The stuff of a STAND: in its store, and in each making as much as it took."""
    return stand[2] + sum([terms_of(works, thing)[0] for thing, _ in stand[3]])


def sprung_by(works, stand):
    """What the spring brings in the BEAT of the STAND, whatever of it the store can hold."""
    return works[4][0] if stand[4] == 1 else 0


def ledger_of(works, stand, row):
    """(begun, sprung, ash, struck, there) of a STAND and a ROW."""
    stands, _ = run(works, stand, row)
    sprung = 0
    ash = 0
    struck = 0
    for thing, ahead, behind in zip(row, stands, stands[1:]):
        came = sprung_by(works, ahead) if thing == BEAT else 0
        gone = stuff_in(works, ahead) + came - stuff_in(works, behind)
        sprung += came
        if thing[0] == "strike":
            struck += gone
        else:
            ash += gone
    return stuff_in(works, stand), sprung, ash, struck, stuff_in(works, stands[-1])
