"""Looks at any thing as a FATE PAPER of a BUNCH and a word."""

from handsmade.acts import is_agreed
from handsmade.bunchdeeds import bunch_deeds, bunch_done
from handsmade.errors import NoPaper
from handsmade.glow import bunch_covers, is_bunch
from handsmade.kinds import is_number, is_tuple_of


def is_pair(thing):
    """Whether it is a pair of any thing and a NUMBER."""
    return is_tuple_of(thing, 2) and is_number(thing[1])


def is_fate(thing):
    """Whether it has the shape of a FATE PAPER."""
    if not is_tuple_of(thing, 3) or not isinstance(thing[1], tuple) or not isinstance(thing[2], tuple):
        return False
    if thing[0] == "most":
        return all([is_pair(pair) for pair in thing[2]])
    return thing[0] == "endless"


def is_bunch_deed(thing, many):
    """Whether it is a BUNCH DEED by kind."""
    if not is_tuple_of(thing, 2):
        return False
    if thing[0] == "agree":
        return is_agreed(thing[1], many)
    return thing[0] in ("make", "copy") and is_number(thing[1])


def walked(lights, row, first, *, many, bright):
    """The BUNCH behind a row whose things are counted from first on; what can't be DONE is refused."""
    for k, thing in enumerate(row):
        if not is_bunch_deed(thing, many):
            raise NoPaper("row", first + k)
        lights = bunch_done(lights, thing, many=many, bright=bright)
        if lights is None:
            raise NoPaper("row", first + k)
    return lights


def times_in(row, word):
    """How many BUNCH DEEDS of a row are of this word."""
    return len([deed for deed in row if deed[0] == word])


def look_at_endless(lights, word, ahead, ring, *, many, bright):
    """Refuses what is no right ("endless", ahead, ring)."""
    begun = walked(lights, ahead, 0, many=many, bright=bright)
    ended = walked(begun, ring, len(ahead), many=many, bright=bright)
    if times_in(ring, word) == 0:
        raise NoPaper("word", -1)
    if not bunch_covers(ended, begun):
        raise NoPaper("less", -1)


def look_at_pairs(pairs, bright):
    """Refuses pairs that are none of BUNCHES, or don't rise."""
    for k, (bunch, _) in enumerate(pairs):
        if not is_bunch(bunch) or max(bunch, default=0) > bright:
            raise NoPaper("bunch", k)
        if k > 0 and pairs[k] <= pairs[k - 1]:
            raise NoPaper("rise", k)


def has_over(pairs, lights, most):
    """Whether the BUNCH is NO MORE than that of a pair whose NUMBER is no more than most."""
    for bunch, number in pairs:
        if number <= most and bunch_covers(bunch, lights):
            return True
    return False


def look_at_steps(pairs, word, *, many, bright):
    """Refuses pairs of which one leads to a BUNCH for which there is none."""
    for k, (bunch, number) in enumerate(pairs):
        for j, deed in enumerate(bunch_deeds(bunch, many=many, bright=bright)):
            behind = bunch_done(bunch, deed, many=many, bright=bright)
            if not has_over(pairs, behind, number - 1 if deed[0] == word else number):
                raise NoPaper("step", (k, j))


def lets_fate(lights, word, thing, *, many, bright):
    """MOST OFTEN of a FATE PAPER, None of "endless"; any other thing is refused by the first reason."""
    if not is_fate(thing):
        raise NoPaper("shape", -1)
    name, row, rest = thing
    if name == "endless":
        look_at_endless(lights, word, row, rest, many=many, bright=bright)
        return None
    walked(lights, row, 0, many=many, bright=bright)
    look_at_pairs(rest, bright)
    times = times_in(row, word)
    if not has_over(rest, lights, times):
        raise NoPaper("first", -1)
    look_at_steps(rest, word, many=many, bright=bright)
    return times
