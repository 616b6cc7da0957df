"""Which STANDS of a WEB are KEPT, which FALL, and in which round."""

from handsmade.goods import goods_of


class Field:
    """What leads to what among some STANDS, by numbers. Of all others that they lead to it is known which are KEPT."""

    def __init__(self, works, leads, stands, known):
        self.stands = list(stands)
        self.goods = goods_of(works)
        # A place is a STAND as it may be STRUCK; many STANDS may be STRUCK so that they come to the same one.
        self.users = []
        self.places_of = []
        self.leading = [[] for _ in self.stands]
        self.coming = {good: [] for good in self.goods}
        self.sure = []
        self._join(leads, {stand: k for k, stand in enumerate(self.stands)}, known)

    def _join(self, leads, numbers, known):
        """Joins each STAND with the places in which it may be, and each place with what it leads to."""
        places = {}
        for k, stand in enumerate(self.stands):
            ways = leads.places(stand)
            self.places_of.append(len(ways))
            for place in ways:
                if place not in places:
                    places[place] = len(places)
                    self.users.append([])
                    self._lead(places[place], leads.led(place), numbers, known)
                self.users[places[place]].append(k)

    def _lead(self, place, pairs, numbers, known):
        """Joins a place with what it leads to."""
        coming = {good: [] for good in self.goods}
        leads_to = {}
        for there, comes in pairs:
            if there in numbers:
                leads_to[numbers[there]] = True
                for good in comes:
                    coming[good].append(numbers[there])
        for k in leads_to:
            self.leading[k].append(place)
        for good in self.goods:
            if coming[good] != []:
                self.coming[good].append((place, coming[good]))
        # From what is KEPT already each GOOD is BROUGHT.
        if any([known.get(there, False) for there, _ in pairs]):
            self.sure.append(place)


def places_at_once(field, left, good):
    """The places from which the GOOD COMES in one beat that leads to one of those left, or is BROUGHT for sure."""
    found = {place: True for place in field.sure}
    for place, ons in field.coming[good]:
        for k in ons:
            if left[k]:
                found[place] = True
                break
    return list(found)


def brought(field, left, good):
    """Of each STAND left in how many beats the GOOD is BROUGHT in the set of those left, None where it isn't."""
    heights = [None] * len(field.stands)
    lacking = list(field.places_of)
    wave = places_at_once(field, left, good)
    met = {place: True for place in wave}
    beats = 1
    while wave:
        more = []
        for place in wave:
            for k in field.users[place]:
                lacking[k] -= 1
                if lacking[k] == 0 and left[k]:
                    heights[k] = beats
                    for other in field.leading[k]:
                        if other not in met:
                            met[other] = True
                            more.append(other)
        wave = more
        beats += 1
    return heights


class Rounds:
    """The STANDS of a WEB taken away round by round.

    heights has of each KEPT one its HEIGHTS, GOOD by GOOD; fallen of each other one its round and the GOODS that
    weren't BROUGHT then. STANDS of which it is known already whether they are KEPT are left out of both.
    """

    def __init__(self, works, leads, stands, known):
        field = Field(works, leads, stands, known)
        left = [True] * len(field.stands)
        self.heights = {}
        self.fallen = {}
        number = 0
        falls = True
        while falls:
            falls = False
            rows = [brought(field, left, good) for good in field.goods]
            for k, stand in enumerate(field.stands):
                lacked = tuple([good for good, row in zip(field.goods, rows) if row[k] is None])
                if left[k] and lacked != ():
                    self.fallen[stand] = (number, lacked)
                    left[k] = False
                    falls = True
            number += 1
        for k, stand in enumerate(field.stands):
            if left[k]:
                self.heights[stand] = tuple([row[k] for row in rows])
