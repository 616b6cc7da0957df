"""What DOC.md says of BUNCHES told again in the plainest way."""

from itertools import combinations_with_replacement

from plain import falling


def bunches(bright, most):
    """All BUNCHES of at most so many LIGHTS, none above bright."""
    return [lights for many in range(most + 1) for lights in falling(range(bright + 1), many)]


def all_deeds(many, bright):
    """All BUNCH DEEDS with a light at most one above bright."""
    lights = range(bright + 2)
    chosen = [row[::-1] for row in combinations_with_replacement(lights, many)]
    return sorted([("agree", row) for row in chosen] + [(word, light) for word in ("make", "copy") for light in lights])


def behind(lights, deed, bright):
    """The BUNCH behind a BUNCH DEED, None where it can't be."""
    left = list(lights)
    word, by = deed
    for light in by if word == "agree" else (by,):
        if light not in left:
            return None
        left.remove(light)
    if word == "agree":
        left.append(bright)
    else:
        if by == 0:
            return None
        left += [by - 1] * (2 if word == "copy" else 1)
    return tuple(sorted(left, reverse=True))


def steps(lights, many, bright):
    """All BUNCH DEEDS that can be DONE with the BUNCHES behind them, as they rise."""
    told = [(deed, behind(lights, deed, bright)) for deed in all_deeds(many, bright)]
    return [(deed, there) for deed, there in told if there is not None]


def closure(start, many, bright, without=None):
    """All BUNCHES that come of some, by BUNCH DEEDS of any word but one."""
    found = set(start)
    waiting = list(start)
    while waiting:
        for deed, there in steps(waiting.pop(), many, bright):
            if deed[0] != without and there not in found:
                found.add(there)
                waiting.append(there)
    return found


def most_times(lights, word, many, bright):
    """MOST OFTEN, where it isn't ENDLESS: how often the word can be had until nothing is left that has it."""
    times = -1
    reached = {lights}
    while reached:
        times += 1
        there = closure(reached, many, bright, word)
        reached = {after for one in there for deed, after in steps(one, many, bright) if deed[0] == word}
    return times


def glow(lights):
    return sum(2 ** light for light in lights)


def endless(lights, word, many, bright):
    """Whether it is ENDLESS, as [41] says."""
    if word == "make":
        return 2 ** bright > many and glow(lights) >= many
    return 2 ** bright >= many and glow(lights) >= many


def is_deed(thing, many):
    """Whether any thing is a BUNCH DEED."""
    if thing.__class__ is not tuple or len(thing) != 2 or thing[0].__class__ is not str:
        return False
    by = thing[1]
    if thing[0] in ("make", "copy"):
        return by.__class__ is int and by >= 0
    return (
        thing[0] == "agree" and by.__class__ is tuple and len(by) == many
        and all(light.__class__ is int and light >= 0 for light in by) and list(by) == sorted(by, reverse=True)
    )


def covers(one, other):
    """Whether the one BUNCH is NO LESS."""
    return len(one) >= len(other) and all(one[k] >= other[k] for k in range(len(other)))


def walked(lights, row, many, bright):
    """The BUNCH behind a row, or the number of the first thing of it that is no BUNCH DEED that can be DONE there."""
    for k, thing in enumerate(row):
        lights = behind(lights, thing, bright) if is_deed(thing, many) else None
        if lights is None:
            return k
    return lights


def fate_told(lights, word, thing, many, bright):
    """What a checker has to tell of a thing of the shape of a FATE PAPER: n, None, or (word, at)."""
    name, row, rest = thing
    there = walked(lights, row, many, bright)
    if there.__class__ is int:
        return "row", there
    if name == "endless":
        after = walked(there, rest, many, bright)
        if after.__class__ is int:
            return "row", len(row) + after
        if word not in [deed[0] for deed in rest]:
            return "word", -1
        return None if covers(after, there) else ("less", -1)
    for k, (bunch, _) in enumerate(rest):
        numbers = bunch.__class__ is tuple and all(light.__class__ is int and 0 <= light <= bright for light in bunch)
        if not numbers or list(bunch) != sorted(bunch, reverse=True):
            return "bunch", k
        if k and not rest[k] > rest[k - 1]:
            return "rise", k
    times = [deed[0] for deed in row].count(word)
    if not any(number <= times and covers(bunch, lights) for bunch, number in rest):
        return "first", -1
    for k, (bunch, number) in enumerate(rest):
        for j, (deed, there) in enumerate(steps(bunch, many, bright)):
            most = number - (deed[0] == word)
            if not any(other <= most and covers(over, there) for over, other in rest):
                return "step", (k, j)
    return times
