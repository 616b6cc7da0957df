"""The VOID STAND and the FULL one of a WORKS, and a STAND with one thing of it changed."""


def phase_told(works, phase):
    """The phase that is meant: drip where it is None."""
    if phase is None:
        return works[4][1]
    return phase


def void_stand(works, *, phase=None, rest=0):
    """The VOID STAND: no uses, leaves, stuff, makings."""
    many = len(works[0])
    return (0,) * many, ((),) * many, 0, (), phase_told(works, phase), rest


def full_stand(works, *, phase=None, rest=0):
    """The FULL STAND: uses, leaves and store at their bounds, no makings."""
    many = len(works[0])
    uses, sheets, bright, store = works[3]
    return (uses,) * many, ((bright,) * sheets,) * many, store, (), phase_told(works, phase), rest


def put_at(things, k, thing):
    """The tuple with another thing in place k."""
    return things[:k] + (thing,) + things[k + 1:]


def without_making(stand, j):
    """The STAND without making number j."""
    makings = stand[3]
    return put_at(stand, 3, makings[:j] + makings[j + 1:])
