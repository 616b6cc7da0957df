"""Which GOODS can come from a STAND at all."""

from handsmade.bounds import MOST
from handsmade.goods import goods_of
from handsmade.leads import Leads
from handsmade.webs import gone_through


def goods_to_come(works, stand, *, most=MOST):
    """The GOODS that CAN COME from the STAND, rising."""
    leads = Leads(works)
    web = gone_through(leads, stand, most=most, quiet=True)
    return tuple(sorted({good for there in web for _, comes in leads.led(there) for good in comes}))


def is_alive(works, stand, *, most=MOST):
    """Whether all GOODS of the WORKS CAN COME from the STAND."""
    return goods_to_come(works, stand, most=most) == goods_of(works)
