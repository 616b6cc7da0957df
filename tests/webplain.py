"""WEBS, what can come, what is BROUGHT and what is KEPT told again in the plainest way, by going through all."""

from functools import lru_cache

from plain import Plain, deed_list, no_less, strike_list
from samples import good_list

BEAT = ("beat",)


@lru_cache(None)
def deeds_from(plant, stand):
    """All DEEDS that can be DONE, with the STANDS behind them, as they rise."""
    found = []
    for deed in deed_list(plant):
        plain = Plain(plant, stand)
        if plain.barred(deed) is None:
            plain.do(deed)
            found.append((deed, plain.stand()))
    return tuple(found)


@lru_cache(None)
def beat_from(plant, stand):
    """The STAND behind the BEAT, and what COMES."""
    plain = Plain(plant, stand)
    comes = plain.beat()
    return plain.stand(), comes


def turns_from(plant, stand, ahead=()):
    """All TURNS with the pairs (NEXT, COMES) to which they lead."""
    found = [(ahead, beat_from(plant, stand))]
    for deed, behind in deeds_from(plant, stand):
        if deed[0] != "break" or all(other[0] == "break" for other in ahead):
            found += turns_from(plant, behind, ahead + (deed,))
    return found


@lru_cache(None)
def led_from(plant, stand):
    """Of each TURN, as they rise, the pair (NEXT, COMES)."""
    return dict(sorted(turns_from(plant, stand)))


@lru_cache(None)
def pairs_from(plant, stand):
    """All pairs (NEXT, COMES)."""
    return frozenset(led_from(plant, stand).values())


@lru_cache(None)
def ways_from(plant, stand):
    """Of each WAY, as they stand, the STAND STRUCK so."""
    found = {None: stand}
    for strike in strike_list(plant):
        plain = Plain(plant, stand)
        if plain.refused(strike) is None:
            plain.strike(strike)
            found[strike] = plain.stand()
    return found


@lru_cache(None)
def web_from(plant, stand, quiet=False):
    """The WEB of a STAND, or its QUIET WEB."""
    found = {stand}
    waiting = [stand]
    while waiting:
        here = waiting.pop()
        for place in [here] if quiet else ways_from(plant, here).values():
            for there, _ in pairs_from(plant, place):
                if there not in found:
                    found.add(there)
                    waiting.append(there)
    return frozenset(found)


def quiet_beats(plant, stand, most=60):
    """Of each GOOD that a QUIET ROW brings, DEEDS in any order, in how many beats at the fewest."""
    found = {}
    there = {stand}
    met = set()
    for beats in range(1, most):
        waiting = list(there)
        while waiting:
            for _, behind in deeds_from(plant, waiting.pop()):
                if behind not in there:
                    there.add(behind)
                    waiting.append(behind)
        led = {beat_from(plant, one) for one in there}
        for _, comes in led:
            for good in comes:
                found.setdefault(good, beats)
        there = {behind for behind, _ in led} - met
        met |= there
        if not there:
            break
    return found


def brought_in(plant, stands, good):
    """Of each of some STANDS in how many beats the GOOD is BROUGHT from it in the set of them."""
    heights = {}
    beats = 0
    fresh = True
    while fresh:
        beats += 1
        fresh = [
            stand for stand in stands if stand not in heights and all(
                any(
                    there in stands and (good in comes or heights.get(there, beats) < beats)
                    for there, comes in pairs_from(plant, place)
                ) for place in ways_from(plant, stand).values()
            )
        ]
        heights.update({stand: beats for stand in fresh})
    return heights


def rounds_over(plant, web):
    """Of WEBS put together the KEPT, with their HEIGHTS, and the FALLEN, with their rounds."""
    left = set(web)
    goods = sorted(good_list(plant))
    fallen = {}
    number = 0
    while True:
        rows = [brought_in(plant, left, good) for good in goods]
        falls = {one for one in left if any(one not in row for row in rows)}
        if not falls:
            return {one: tuple(row[one] for row in rows) for one in left}, fallen
        fallen.update({one: number for one in falls})
        left -= falls
        number += 1


@lru_cache(None)
def rounds_from(plant, stand):
    """Of the WEB of a STAND the KEPT, with their HEIGHTS, and the FALLEN, with their rounds."""
    return rounds_over(plant, web_from(plant, stand))


def all_kept(plant, stands):
    """Those of the STANDS that are KEPT."""
    kept, _ = rounds_over(plant, frozenset().union(*[web_from(plant, stand) for stand in stands]))
    return {stand for stand in stands if stand in kept}


def kept_from(plant, stand):
    """Whether a STAND is KEPT."""
    return stand in rounds_from(plant, stand)[0]


def safe_from(plant, stand):
    """Whether a STAND is SAFE."""
    return any(kept_from(plant, there) for there, _ in pairs_from(plant, stand))


@lru_cache(None)
def covers(stand, other):
    """Whether a STAND is NO LESS than another one."""
    return no_less(stand, other)
