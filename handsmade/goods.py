"""The KINDS and the GOODS of a WORKS, and what it takes to make them."""


def kind_called(works, name):
    """The KIND of this name, None where there is none."""
    for kind in works[0]:
        if kind[0] == name:
            return kind
    return None


def place_called(works, name):
    """The number of the KIND of this name, None where there is none."""
    for k, kind in enumerate(works[0]):
        if kind[0] == name:
            return k
    return None


def terms_of(works, thing):
    """What a making of ("tool", name) or ("leaf", name, light) takes of stuff, and of beats."""
    _, copying, agreeing, bounds = works[:4]
    if thing[0] == "tool":
        return kind_called(works, thing[1])[2:4]
    # No copy is bright, so a leaf in the making tells by its light alone how it is made.
    if thing[2] == bounds[2]:
        return agreeing[1:]
    return copying[1:]


def goods_of(works):
    """The GOODS of a WORKS, rising."""
    names = [kind[0] for kind in works[0]]
    return tuple(sorted([(what, name) for what in ("leaf", "tool") for name in names]))
