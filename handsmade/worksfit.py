"""Whether any thing is a WHOLE WORKS: all that its asks name is there."""

from handsmade.errors import NoWorks
from handsmade.goods import kind_called
from handsmade.kinds import is_works


def lacking_ask(works, asks):
    """The number of the first ask that names no KIND of the WORKS, None where each names one."""
    for j, (name, _) in enumerate(asks):
        if kind_called(works, name) is None:
            return j
    return None


def lets_works(thing):
    """True of a WHOLE WORKS; any other thing is refused by the first reason."""
    if not is_works(thing):
        raise NoWorks("shape", -1)
    kinds, copying = thing[:2]
    for k, kind in enumerate(kinds):
        j = lacking_ask(thing, kind[1])
        if j is not None:
            raise NoWorks("asks", (k, j))
    j = lacking_ask(thing, copying[0])
    if j is not None:
        raise NoWorks("copying", j)
    return True


def is_whole(thing):
    """Whether it is a WHOLE WORKS."""
    try:
        return lets_works(thing)
    except NoWorks:
        return False
