"""Few STANDS in the place of many: the greatest, or the least, of those of one mark."""

from handsmade.order import is_no_less


def bulk(stand):
    """A NUMBER that is greater of each STAND that is NO LESS than another one, unless both are the same."""
    uses, leaves, store, makings, _, rest = stand
    lights = sum([light + 1 for row in leaves for light in row])
    made = sum([1 if thing[0] == "tool" else thing[2] + 1 for thing, _ in makings])
    return sum(uses) + lights + store + made + rest


def no_less_in(stand, others):
    """The first of the others that is NO LESS than the STAND, None where none is."""
    for other in others:
        if is_no_less(other, stand):
            return other
    return None


def no_more_in(stand, others):
    """The first of the others that is NO MORE than the STAND, None where none is."""
    for other in others:
        if is_no_less(stand, other):
            return other
    return None


def stand_ins(marks, stands, first_in):
    """Of each STAND, as they stand, the first ahead of it of its mark that first_in finds, itself where none is."""
    found = {}
    firsts = {}
    for stand in stands:
        ahead = firsts.setdefault(marks[stand], [])
        other = first_in(stand, ahead)
        if other is None:
            other = stand
            ahead.append(stand)
        found[stand] = other
    return found


def greatest_for(marks):
    """Of each STAND, handed in with its mark, one of the greatest of that mark that is NO LESS."""
    return stand_ins(marks, sorted(marks, key=bulk, reverse=True), no_less_in)


def least_for(marks):
    """Of each STAND, handed in with its mark, one of the least of that mark that is NO MORE."""
    return stand_ins(marks, sorted(marks, key=bulk), no_more_in)


class Tops:
    """STANDS, and whether others are NO MORE than one of them: each other one is compared but once."""

    def __init__(self, stands):
        self._stands = list(stands)
        self._told = {stand: True for stand in stands}

    def has_over(self, stand):
        """Whether the STAND is NO MORE than one of these."""
        if stand not in self._told:
            self._told[stand] = no_less_in(stand, self._stands) is not None
        return self._told[stand]
