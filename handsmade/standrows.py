"""ROWS: deeds, beats and strikes, one behind the other."""

from handsmade.acts import is_deed, is_strike
from handsmade.beats import beat_passed
from handsmade.deeds import done
from handsmade.errors import NoDeed, NoRow
from handsmade.kinds import is_tuple_of
from handsmade.strikes import struck

BEAT = ("beat",)


def is_row_strike(thing):
    """Whether it is ("strike", strike)."""
    return is_tuple_of(thing, 2) and thing[0] == "strike" and is_strike(thing[1])


def misplaced(row, k):
    """The word by which thing k of a row can't stand there, whatever the STAND, None where it can."""
    thing = row[k]
    if is_row_strike(thing):
        return None if k == 0 or row[k - 1] == BEAT else "strike"
    return None if thing == BEAT or is_deed(thing) else "shape"


def acted(works, stand, thing):
    """The STAND behind a deed or a strike of a row."""
    if thing[0] == "strike":
        return struck(works, stand, thing[1])
    return done(works, stand, thing)


def run(works, stand, row):
    """The STANDS of a ROW, where it begins and behind each thing, and beat by beat what COMES."""
    stands = [stand]
    come = []
    for k, thing in enumerate(row):
        why = misplaced(row, k)
        if why is not None:
            raise NoRow(k, why)
        if thing == BEAT:
            behind, comes = beat_passed(works, stands[-1])
            come.append(comes)
        else:
            try:
                behind = acted(works, stands[-1], thing)
            except NoDeed as refusal:
                raise NoRow(k, refusal.why) from None
        stands.append(behind)
    return tuple(stands), tuple(come)
