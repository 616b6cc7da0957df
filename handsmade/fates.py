"""How often leaves can be read at all."""

from handsmade.bunchdeeds import bunch_deeds, bunch_done
from handsmade.glow import glow_of


def is_endless(lights, word, many, bright):
    """Whether the BUNCH DEEDS of this word are ENDLESS."""
    if glow_of(lights) < many:
        return False
    if word == "make":
        return 1 << bright > many
    return 1 << bright >= many


def bunch_web(lights, *, many, bright, most=None):
    """Of each BUNCH that comes of this one, it too, its BUNCH DEEDS with the BUNCHES behind; None beyond most."""
    steps = {}
    waiting = [lights]
    while waiting:
        bunch = waiting.pop()
        if bunch not in steps:
            deeds = bunch_deeds(bunch, many=many, bright=bright)
            steps[bunch] = [(deed, bunch_done(bunch, deed, many=many, bright=bright)) for deed in deeds]
            waiting.extend([behind for _, behind in steps[bunch]])
        if most is not None and len(steps) > most:
            return None
    return steps


def heights_of(steps, word):
    """Of each BUNCH of a web how often the word can be, where it isn't ENDLESS, and its first step to that."""
    heights = {bunch: 0 for bunch in steps}
    ways = {}
    grows = True
    while grows:
        grows = False
        for bunch, step_list in steps.items():
            for deed, behind in step_list:
                height = heights[behind] + (1 if deed[0] == word else 0)
                # A way is kept only where the height grows by it, so ways never lead round in a ring.
                if height > heights[bunch]:
                    heights[bunch] = height
                    ways[bunch] = (deed, behind)
                    grows = True
    return heights, ways


def most_of(lights, word, *, many, bright):
    """The greatest number of BUNCH DEEDS of this word that a BUNCH ROW has, None where they are ENDLESS."""
    if is_endless(lights, word, many, bright):
        return None
    heights, _ = heights_of(bunch_web(lights, many=many, bright=bright), word)
    return heights[lights]
