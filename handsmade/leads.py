"""What TURNS and the BEAT lead to, gone through once for each STAND that is asked about."""

from handsmade.beats import makings_ended, time_passed
from handsmade.deeds import deeds_at, done
from handsmade.stands import without_making
from handsmade.strikes import struck_so, ways_of


def without_clocks(stand):
    """The STAND with a phase and a rest that are the same for all: no DEED, no END hangs on these."""
    return stand[:4] + (1, 0)


def made_from(works, stand):
    """All DEEDS but "break"s that can be DONE at the STAND, with the STANDS behind them."""
    if len(stand[3]) >= works[6]:
        return []
    return [(deed, done(works, stand, deed)) for deed in deeds_at(works, stand) if deed[0] != "break"]


def broken_from(stand):
    """All "break"s at the STAND, with the STANDS behind them."""
    return [(("break", j), without_making(stand, j)) for j in range(len(stand[3]))]


def nexts_in(pairs):
    """The STANDS of pairs (NEXT, COMES), each once."""
    return list({there: True for there, _ in pairs})


class Leads:
    """What the STANDS of one WORKS lead to. It keeps what it was asked, so a WEB is gone through but once."""

    def __init__(self, works):
        self._works = works
        self._made = {}
        self._ended = {}
        self._led = {}
        self._places = {}
        self._nexts = {}

    def _made_from(self, stand):
        if stand not in self._made:
            self._made[stand] = made_from(self._works, stand)
        return self._made[stand]

    def _turned(self, stand):
        """Of each STAND to which TURNS lead, ahead of the BEAT, one such TURN."""
        found = {stand: ()}
        order = [stand]
        # "break"s stand ahead of all others in a TURN: first all that they lead to, then what comes of that.
        for word in ("break", "others"):
            k = 0
            while k < len(order):
                there = order[k]
                steps = broken_from(there) if word == "break" else self._made_from(there)
                for deed, behind in steps:
                    if behind not in found:
                        found[behind] = found[there] + (deed,)
                        order.append(behind)
                k += 1
        return found

    def _ended_from(self, stand):
        """Of each pair of a STAND behind the ENDs of a BEAT and what COMES one TURN that leads to it."""
        stand = without_clocks(stand)
        if stand not in self._ended:
            found = {}
            for there, turn in self._turned(stand).items():
                found.setdefault(makings_ended(self._works, there), turn)
            self._ended[stand] = found
        return self._ended[stand]

    def led(self, stand):
        """All pairs (NEXT, COMES) to which TURNS of the STAND and the BEAT lead, each once."""
        if stand not in self._led:
            clocks = stand[4:]
            self._led[stand] = list({
                (time_passed(self._works, ended[:4] + clocks), comes): True
                for ended, comes in self._ended_from(stand)
            })
        return list(self._led[stand])

    def turn_to(self, stand, there, good):
        """A TURN that leads, with the BEAT, to this NEXT, so that the GOOD COMES, any where this is None."""
        for (ended, comes), turn in self._ended_from(stand).items():
            if time_passed(self._works, ended[:4] + stand[4:]) == there and (good is None or good in comes):
                return turn
        return None

    def places(self, stand):
        """The STAND as it may be STRUCK in its WAYS, each once."""
        if stand not in self._places:
            ways = ways_of(self._works, stand)
            self._places[stand] = list({struck_so(self._works, stand, way): True for way in ways})
        return list(self._places[stand])

    def nexts(self, stand):
        """The NEXT of the STAND, each once."""
        return nexts_in(self.led(stand))

    def nexts_struck(self, stand):
        """The NEXT of the STAND STRUCK in each WAY, each once."""
        if stand not in self._nexts:
            self._nexts[stand] = nexts_in([pair for place in self.places(stand) for pair in self.led(place)])
        return list(self._nexts[stand])
