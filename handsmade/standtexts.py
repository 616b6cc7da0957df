"""A STAND written as six words, and read from them."""

from handsmade.errors import NoText
from handsmade.figures import FIGURES, number_read
from handsmade.standchecker import is_making


def joined(words, between):
    """The words with a sign between, - for none."""
    if words == []:
        return "-"
    return between.join(words)


def lights_word(lights):
    """The LIGHTS of one KIND as a word."""
    return joined([str(light) for light in lights], ".")


def making_word(making):
    """A making as a word."""
    thing, left = making
    return ".".join([str(part) for part in thing]) + ":" + str(left)


def stand_text(stand):
    """The text of a STAND."""
    uses, leaves, store, makings, phase, rest = stand
    words = [
        ",".join([str(many) for many in uses]),
        ",".join([lights_word(lights) for lights in leaves]),
        str(store),
        joined([making_word(making) for making in makings], ","),
        str(phase),
        str(rest),
    ]
    return " ".join(words)


def figures_read(word):
    """The NUMBER that a word writes, None where it writes none."""
    return number_read(word, FIGURES)


def each_read(word, between, read):
    """What the parts of a word write, a sign between, None where one writes nothing."""
    things = [read(part) for part in word.split(between)]
    if any([thing is None for thing in things]):
        return None
    return tuple(things)


def uses_read(word):
    """The uses that a word writes, None where it writes none."""
    return each_read(word, ",", figures_read)


def lights_read(word):
    """The LIGHTS that a word writes, None where it writes none."""
    if word == "-":
        return ()
    return each_read(word, ".", figures_read)


def leaves_read(word):
    """The LIGHTS of each KIND that a word writes, None where it writes none."""
    return each_read(word, ",", lights_read)


def making_read(word):
    """The making that a word writes, None where it writes none."""
    thing_word, _, left_word = word.partition(":")
    parts = thing_word.split(".")
    thing = tuple(parts[:2] + [figures_read(part) for part in parts[2:]])
    making = (thing, figures_read(left_word))
    return making if is_making(making) else None


def makings_read(word):
    """The makings that a word writes, None where it writes none."""
    if word == "-":
        return ()
    return each_read(word, ",", making_read)


READERS = (uses_read, leaves_read, figures_read, makings_read, figures_read, figures_read)


def stand_read(text):
    """The STAND, by kind alone, that a text writes; any other text is refused at the first word that can't stand."""
    words = text.split(" ")
    things = []
    for at, word in enumerate(words[:len(READERS)]):
        reader = READERS[at]
        thing = reader(word)
        if thing is None:
            raise NoText(0, at)
        things.append(thing)
    if len(words) != len(READERS):
        raise NoText(0, min(len(words), len(READERS)))
    return tuple(things)
