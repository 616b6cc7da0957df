"""Papers that tell how often leaves can be read."""

from handsmade.bounds import MOST
from handsmade.bunchdeeds import bunch_done, copied_out
from handsmade.errors import NoMore
from handsmade.fates import bunch_web, heights_of, is_endless
from handsmade.glow import glow_of


def endless_paper(lights, word, many, bright):
    """The paper of a BUNCH and a word that is ENDLESS."""
    ahead = copied_out(lights)
    agree = ("agree", (0,) * many)
    dark = (0,) * glow_of(lights)
    ring = copied_out(bunch_done(dark, agree, many=many, bright=bright))
    if word == "make":
        # The last copy is of light 1: a "make" in its place costs one dark leaf, which the "agree" brought over.
        ring = ring[:-1] + (("make", 1),)
    return "endless", ahead, (agree,) + ring


def most_paper(lights, word, steps):
    """The paper of a BUNCH and a word that isn't ENDLESS, by the web of its BUNCHES."""
    heights, ways = heights_of(steps, word)
    row = []
    bunch = lights
    while heights[bunch] > 0:
        deed, bunch = ways[bunch]
        row.append(deed)
    return "most", tuple(row), tuple(sorted(heights.items()))


def fate_paper(lights, word, *, many, bright, most=MOST):
    """A FATE PAPER of a BUNCH and a word; beyond most BUNCHES one that isn't ENDLESS is refused."""
    if is_endless(lights, word, many, bright):
        return endless_paper(lights, word, many, bright)
    steps = bunch_web(lights, many=many, bright=bright, most=most)
    if steps is None:
        raise NoMore(most)
    return most_paper(lights, word, steps)
