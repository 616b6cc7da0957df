"""A WORKS written as lines."""


def line_of(things):
    """WORDS and NUMBERS with single blanks between."""
    return " ".join([str(thing) for thing in things])


def asks_told(asks):
    """Asks one behind the other: WORD, NUMBER, WORD, NUMBER and so on."""
    told = []
    for word, number in asks:
        told.extend([word, number])
    return told


def copying_line(copying):
    """The line of COPYING."""
    asks, takes, beats = copying
    return line_of(["copying", takes, beats] + asks_told(asks))


def kind_line(kind):
    """The line of a KIND."""
    name, asks, takes, beats, gives, back = kind
    return line_of(["kind", name, takes, beats, gives, back] + asks_told(asks))


def works_text(works):
    """The text of any WORKS, be it WHOLE or not."""
    kinds, copying, agreeing, bounds, spring, foe, benches = works
    lines = [
        line_of(["benches", benches]),
        line_of(["agreeing", *agreeing]),
        line_of(["bounds", *bounds]),
        line_of(["spring", *spring]),
        line_of(["foe", *foe]),
        copying_line(copying),
    ]
    for kind in kinds:
        lines.append(kind_line(kind))
    return "\n".join(lines)
