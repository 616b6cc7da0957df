"""The VOID STAND and the FULL one of a WORKS."""


def phase_told(works, phase):
    """The phase that is meant: drip where it is None."""
    if phase is None:
        return works[4][1]
    return phase


def void_stand(works, *, phase=None, rest=0):
    """The VOID STAND: no uses, leaves, stuff, makings."""
    many = len(works[0])
    return (0,) * many, ((),) * many, 0, (), phase_told(works, phase), rest


def full_stand(works, *, phase=None, rest=0):
    """The FULL STAND: uses, leaves and store at their bounds, no makings."""
    many = len(works[0])
    uses, sheets, bright, store = works[3]
    return (uses,) * many, ((bright,) * sheets,) * many, store, (), phase_told(works, phase), rest
