"""What is KEPT, told of many STANDS: what one WEB told is so for all its STANDS and isn't gone through again."""

from handsmade.errors import NoMore
from handsmade.leads import Leads
from handsmade.rounds import Rounds
from handsmade.webs import gone_through


class Known:
    """Whether STANDS of one WORKS are KEPT, as far as their WEBS have no more than most.

    Where counts_all is False what was told already isn't counted again, so fewer are refused.
    """

    def __init__(self, works, most, *, counts_all=True):
        self._works = works
        self._most = most
        self._counts_all = counts_all
        self._leads = Leads(works)
        self._kept = {}

    def is_kept(self, stand):
        """Whether the STAND is KEPT; where its WEB has more than most it is refused."""
        if stand not in self._kept:
            fresh = list(gone_through(self._leads, stand, most=self._most, quiet=False, beyond=self._kept))
            if self._counts_all and len(fresh) + len(self._kept) > self._most:
                gone_through(self._leads, stand, most=self._most, quiet=False)
            rounds = Rounds(self._works, self._leads, fresh, self._kept)
            for there in fresh:
                self._kept[there] = there in rounds.heights
        return self._kept[stand]

    def is_safe(self, stand):
        """Whether one of the NEXT of the STAND is KEPT; where none is and a WEB has more than most it is refused."""
        nexts = self._leads.nexts(stand)
        if any([self._kept.get(there, False) for there in nexts]):
            return True
        all_told = True
        for there in nexts:
            try:
                if self.is_kept(there):
                    return True
            except NoMore:
                # Another one of the NEXT may be KEPT still.
                all_told = False
        if not all_told:
            raise NoMore(self._most)
        return False
