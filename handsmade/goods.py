"""The KINDS and the GOODS of a WORKS."""


def kind_called(works, name):
    """The KIND of this name, None where there is none."""
    for kind in works[0]:
        if kind[0] == name:
            return kind
    return None


def goods_of(works):
    """The GOODS of a WORKS, rising."""
    names = [kind[0] for kind in works[0]]
    return tuple(sorted([(what, name) for what in ("leaf", "tool") for name in names]))
