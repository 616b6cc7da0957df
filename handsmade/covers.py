"""Few STANDS in the place of many: the greatest, or the least, of those of one mark."""

from handsmade.order import is_no_less


def bulk(stand):
    """A NUMBER that is greater of each STAND that is NO LESS than another one, unless both are the same."""
    uses, leaves, store, makings, _, rest = stand
    lights = sum([light + 1 for row in leaves for light in row])
    made = sum([1 if thing[0] == "tool" else thing[2] + 1 for thing, _ in makings])
    return sum(uses) + lights + store + made + rest


def no_less_in(stand, others):
    """The first of the others that is NO LESS than the STAND, None where none is."""
    for other in others:
        if is_no_less(other, stand):
            return other
    return None


def no_more_in(stand, others):
    """The first of the others that is NO MORE than the STAND, None where none is."""
    for other in others:
        if is_no_less(stand, other):
            return other
    return None


def greatest_for(marks):
    """Of each STAND, handed in with its mark, one of the greatest of that mark that is NO LESS."""
    found = {}
    greatest = {}
    for stand in sorted(marks, key=bulk, reverse=True):
        tops = greatest.setdefault(marks[stand], [])
        over = no_less_in(stand, tops)
        if over is None:
            over = stand
            tops.append(stand)
        found[stand] = over
    return found


def least_for(marks):
    """Of each STAND, handed in with its mark, one of the least of that mark that is NO MORE."""
    found = {}
    least = {}
    for stand in sorted(marks, key=bulk):
        lows = least.setdefault(marks[stand], [])
        under = no_more_in(stand, lows)
        if under is None:
            under = stand
            lows.append(stand)
        found[stand] = under
    return found


class Tops:
    """STANDS, and whether others are NO MORE than one of them: each other one is compared but once."""

    def __init__(self, stands):
        self._stands = list(stands)
        self._told = {stand: True for stand in stands}

    def has_over(self, stand):
        """Whether the STAND is NO MORE than one of these."""
        if stand not in self._told:
            self._told[stand] = no_less_in(stand, self._stands) is not None
        return self._told[stand]
