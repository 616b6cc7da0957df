"""DEEDS written as words, and DEEDS, STRIKES, LOTS read from words, by kind alone."""

from handsmade.acts import is_deed, is_strike
from handsmade.figures import number_read
from handsmade.kinds import is_lights

FIGURES = 12


def good_text(good):
    """A GOOD as a word."""
    return ".".join(good)


def deed_text(deed):
    """A DEED as words."""
    *words, by = deed
    if deed[0] == "agree":
        last = ",".join([str(light) for light in by])
    else:
        last = str(by)
    return " ".join(words + [last])


def figures_read(word):
    """The NUMBER that a word writes, None where it writes none."""
    return number_read(word, FIGURES)


def numbers_read(word):
    """The NUMBERS that a word writes, commas between, None where it writes none."""
    numbers = [figures_read(part) for part in word.split(",")]
    return None if None in numbers else tuple(numbers)


def deed_read(words):
    """The DEED that words write, None where they write none."""
    if len(words) == 2:
        deed = (words[0], figures_read(words[1]))
    elif len(words) == 3:
        by = numbers_read(words[2]) if words[0] == "agree" else figures_read(words[2])
        deed = (words[0], words[1], by)
    else:
        return None
    return deed if is_deed(deed) else None


def strike_read(words):
    """The STRIKE that words write, None where they write none."""
    strike = tuple(words)
    if len(words) == 3 or words[:1] == ["making"]:
        strike = tuple(words[:-1]) + (figures_read(words[-1]),)
    return strike if is_strike(strike) else None


def lights_read(word):
    """The LIGHTS that a word writes, as they fall, None where it writes none."""
    if word == "-":
        return ()
    numbers = numbers_read(word)
    return numbers if is_lights(numbers) else None


def lot_read(words):
    """The LOT, by kind alone, that words write, None where they write none."""
    if len(words) != 3:
        return None
    uses = numbers_read(words[0])
    leaves = [lights_read(part) for part in words[1].split(";")]
    store = figures_read(words[2])
    if uses is None or None in leaves or store is None:
        return None
    return uses, tuple(leaves), store
