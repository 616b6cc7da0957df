"""Papers of what can come from a STAND, and of what can't."""

from handsmade.bounds import MOST
from handsmade.comes import quiet_row
from handsmade.covers import greatest_for
from handsmade.webs import quiet_web


def come_paper(works, stand, good, *, most=MOST):
    """A COME PAPER of the STAND and the GOOD."""
    row = quiet_row(works, stand, good, most=most)
    if row is not None:
        return "row", row
    # What comes of the greatest is in the web, too: they are enough.
    greatest = greatest_for({there: True for there in quiet_web(works, stand, most=most)})
    return "barren", tuple(sorted({over for over in greatest.values()}))
