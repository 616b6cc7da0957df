"""What DOC.md says of COME PAPERS, KEPT and LOST PAPERS told again in the plainest way, and papers changed a little."""

from handsmade.acts import is_deed, is_strike
from handsmade.standchecker import is_right_stand
from plain import Plain
from samples import good_list
from webplain import BEAT, covers, led_from, ways_from


def is_tuple(thing, many=None):
    return thing.__class__ is tuple and (many is None or len(thing) == many)


def is_number(thing, least=0):
    return thing.__class__ is int and thing >= least


def row_told(plant, stand, good, row):
    plain = Plain(plant, stand)
    comes = ()
    for k, thing in enumerate(row):
        comes = ()
        if thing == BEAT:
            comes = plain.beat()
        elif is_deed(thing) and plain.barred(thing) is None:
            plain.do(thing)
        else:
            return "step", k
    return "row" if good in comes else ("end", -1)


def barren_told(plant, stand, good, stands):
    for k, there in enumerate(stands):
        if not is_right_stand(plant, there):
            return "stand", k
        if k and not there > stands[k - 1]:
            return "rise", k
    if not any(covers(there, stand) for there in stands):
        return "first", -1
    for k, there in enumerate(stands):
        for j, (behind, comes) in enumerate(led_from(plant, there).values()):
            if good in comes:
                return "comes", (k, j)
            if not any(covers(other, behind) for other in stands):
                return "leaves", (k, j)
    return "barren"


def come_told(plant, stand, good, thing):
    """What a checker has to tell of any thing as a COME PAPER: its word, or (word, at)."""
    if not is_tuple(thing, 2) or thing[0].__class__ is not str or not is_tuple(thing[1]):
        return "shape", -1
    if thing[0] not in ("row", "barren"):
        return "shape", -1
    return (row_told if thing[0] == "row" else barren_told)(plant, stand, good, thing[1])


def is_turn(plant, stand, thing):
    if not all(is_deed(deed) for deed in thing):
        return False
    return thing in led_from(plant, stand)


def kept_told(plant, stand, rows):
    goods = sorted(good_list(plant))
    for k, (there, duties) in enumerate(rows):
        if not is_right_stand(plant, there):
            return "stand", k
        ways = list(ways_from(plant, there).values())
        fits = is_tuple(duties, len(goods)) and all(
            is_tuple(duty, 2) and is_number(duty[0], 1) and is_tuple(duty[1], len(ways)) and all(map(is_tuple, duty[1]))
            for duty in duties
        )
        if not fits:
            return "goods", k
        for g, (_, turns) in enumerate(duties):
            for i, turn in enumerate(turns):
                if not is_turn(plant, ways[i], turn):
                    return "turn", (k, g, i)
    for k, (there, duties) in enumerate(rows):
        ways = list(ways_from(plant, there).values())
        for g, (number, turns) in enumerate(duties):
            for i, turn in enumerate(turns):
                behind, comes = led_from(plant, ways[i])[turn]
                if not any(
                    covers(behind, other) and (goods[g] in comes or others[g][0] < number) for other, others in rows
                ):
                    return "leads", (k, g, i)
    return "kept" if any(covers(stand, other) for other, _ in rows) else ("asked", -1)


def lost_told(plant, stand, rows):
    for k, (there, number, good, way) in enumerate(rows):
        if not is_right_stand(plant, there):
            return "stand", k
        if not is_number(number):
            return "number", k
        if good not in good_list(plant):
            return "good", k
        if way is not None and not (is_strike(way) and way in ways_from(plant, there)):
            return "way", k
    for k, (there, number, good, way) in enumerate(rows):
        for behind, comes in led_from(plant, ways_from(plant, there)[way]).values():
            if not any(
                covers(other, behind) and (n < number or (n == number and what == good and good not in comes))
                for other, n, what, _ in rows
            ):
                return "leads", k
    return "lost" if any(covers(row[0], stand) for row in rows) else ("asked", -1)


def keep_told(plant, stand, thing):
    """What a checker has to tell of any thing as a KEPT or a LOST PAPER: its word, or (word, at)."""
    if not is_tuple(thing, 2) or thing[0].__class__ is not str or not is_tuple(thing[1]):
        return "shape", -1
    many = {"kept": 2, "lost": 4}.get(thing[0])
    if many is None or not all(is_tuple(row, many) for row in thing[1]):
        return "shape", -1
    return (kept_told if thing[0] == "kept" else lost_told)(plant, stand, thing[1])


def places(thing, depth, at=()):
    """All places in tuples within one another, so deep."""
    found = [at]
    if thing.__class__ is tuple and depth > 0:
        for k, part in enumerate(thing):
            found += places(part, depth - 1, at + (k,))
    return found


def part_at(thing, at):
    for k in at:
        thing = thing[k]
    return thing


def put(thing, at, other):
    """The thing with another one at a place."""
    if at == ():
        return other
    return thing[:at[0]] + (put(thing[at[0]], at[1:], other),) + thing[at[0] + 1:]


def variants(part):
    """Things that are a little other than this one."""
    if part.__class__ is int:
        return [part + 1, part - 1, bool(part), None, str(part)]
    if part.__class__ is str:
        return ["leaf", "tool", "b", "make", "copy", "break", None, 0]
    if part.__class__ is tuple:
        found = [list(part), part + (part[-1],) if part else (0,), part[::-1], (), None]
        return found + [part[:k] + part[k + 1:] for k in range(min(len(part), 3))] + [part[:-1]]
    return [0, (), "x", True, ("stuff",), ("making", 0)]


def changes(thing, depth, step):
    """The thing with each step-th of its places changed in each way."""
    for at in places(thing, depth)[::step]:
        for other in variants(part_at(thing, at)):
            yield put(thing, at, other)
