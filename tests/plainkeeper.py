"""What DOC.md says of a KEEPER told again in the plainest way: all is told anew from the LOG each time it is asked."""

from functools import lru_cache

from plain import Plain, deed_list
from webplain import rounds_from, web_from


@lru_cache(None)
def known_of(plant):
    """Of STANDS that were asked about whether they are KEPT."""
    return {}


def is_kept(plant, stand):
    known = known_of(plant)
    if stand not in known:
        kept, _ = rounds_from(plant, stand)
        known.update({there: there in kept for there in web_from(plant, stand)})
    return known[stand]


@lru_cache(None)
def is_safe(plant, stand):
    """Whether some TURN and the BEAT lead to a KEPT one."""
    def led(there, others):
        plain = Plain(plant, there)
        plain.beat()
        if is_kept(plant, plain.stand()):
            return True
        for deed in deed_list(plant):
            plain = Plain(plant, there)
            if plain.barred(deed) is None and not (others and deed[0] == "break"):
                plain.do(deed)
                if led(plain.stand(), others or deed[0] != "break"):
                    return True
        return False

    return led(stand, False)


class PlainHouse:
    def __init__(self, plant, stand, is_open, rows):
        self.plain = Plain(plant, stand)
        self.begun = self.plain.stuff()
        self.had = self.sent = 0
        self.is_open = is_open
        self.came = []
        self.rows = rows

    def act(self, row):
        self.is_open = False
        self.rows.append(row)


def lot_left(plant, stand, lot):
    """What is LEFT, None where a tuple of the form of a LOT doesn't fit, or isn't IN the STAND."""
    uses, leaves, store = lot
    most, sheets, bright, stuff = plant[3]
    many = len(plant[0])
    if len(uses) != many or len(leaves) != many or store > stuff or max(uses) > most:
        return None
    if any(len(lights) > sheets or list(lights) != sorted(lights, reverse=True) for lights in leaves):
        return None
    if any(light > bright for lights in leaves for light in lights):
        return None
    left = [list(lights) for lights in stand[1]]
    for k, lights in enumerate(leaves):
        for light in lights:
            if light not in left[k]:
                return None
            left[k].remove(light)
    counts = tuple(there - gone for there, gone in zip(stand[0], uses))
    if min(counts) < 0 or stand[2] < store:
        return None
    return (counts, tuple(map(tuple, left)), stand[2] - store) + stand[3:]


class PlainKeeper:
    def __init__(self, plant, stand):
        self.plant = plant
        self.first = stand
        self.log = []
        self.houses = {"mother": PlainHouse(plant, stand, True, [])}

    def why_not(self, row):
        """The refusal of a row, as its name and its fields, None where it is let."""
        word = row[0]
        if word == "beat":
            for house in self.houses.values():
                plain = Plain(self.plant, house.plain.stand())
                plain.beat()
                if not is_kept(self.plant, plain.stand()):
                    return "NoKeep", row
            return None
        if row[1] not in self.houses:
            return "NoHouse", row[1]
        house = self.houses[row[1]]
        stand = house.plain.stand()
        if word == "do":
            why = house.plain.barred(row[2])
            if why:
                return "NoDeed", row[2], why
            plain = Plain(self.plant, stand)
            plain.do(row[2])
            return None if is_safe(self.plant, plain.stand()) else ("NoKeep", row)
        if word == "strike":
            why = house.plain.refused(row[2]) if house.is_open else "late"
            return ("NoDeed", row[2], why) if why else None
        if (row[2] in self.houses) is (word == "cut"):
            return "NoHouse", row[2]
        if row[1] == row[2]:
            return "NoDeed", row, "self"
        left = lot_left(self.plant, stand, row[3])
        if left is None:
            return "NoDeed", row, "lot"
        stands = [left] + ([self.daughter(house, row[3])] if word == "cut" else [])
        return None if all(is_safe(self.plant, there) for there in stands) else ("NoKeep", row)

    def daughter(self, house, lot):
        return lot + ((), house.plain.phase, self.plant[5][1])

    def act(self, row):
        """Does a row that is let: what it tells."""
        word = row[0]
        self.log.append(row)
        if word == "beat":
            for house in self.houses.values():
                house.came.append(house.plain.beat())
                house.is_open = True
                house.rows.append(row)
            return tuple((name, house.came[-1]) for name, house in self.houses.items())
        house = self.houses[row[1]]
        house.act(row)
        if word == "do":
            house.plain.do(row[2])
            return house.plain.stand()
        if word == "strike":
            house.plain.strike(row[2])
            return house.plain.stand()
        lot = row[3]
        daughter = self.daughter(house, lot)
        self.put(house, lot_left(self.plant, house.plain.stand(), lot))
        house.sent += lot[2]
        if word == "cut":
            self.houses[row[2]] = PlainHouse(self.plant, daughter, False, [row])
            return daughter
        other = self.houses[row[2]]
        other.act(row)
        other.had += lot[2]
        uses, leaves, store, *rest = other.plain.stand()
        most, sheets, _, bound = self.plant[3]
        other.plain.ash += max(0, store + lot[2] - bound)
        self.put(other, (
            tuple(min(most, there + more) for there, more in zip(uses, lot[0])),
            tuple(tuple(sorted(there + more)[::-1][:sheets]) for there, more in zip(leaves, lot[1])),
            min(bound, store + lot[2]), *rest,
        ))
        return other.plain.stand()

    def put(self, house, stand):
        """Puts another STAND in the HOUSE, and leaves what was booked."""
        old = house.plain
        house.plain = Plain(self.plant, stand)
        house.plain.sprung, house.plain.ash, house.plain.struck = old.sprung, old.ash, old.struck

    def ledger(self, name):
        house = self.houses[name]
        plain = house.plain
        return house.begun, plain.sprung, house.had, house.sent, plain.ash, plain.struck, plain.stuff()

    def may(self, name):
        return tuple(deed for deed in deed_list(self.plant) if self.why_not(("do", name, deed)) is None)

    def looks(self):
        """All that a KEEPER tells but its counts, its may and its may_beat."""
        return {
            "names": tuple(self.houses), "log": (("keeper", self.plant, self.first),) + tuple(self.log),
            "str": ",".join(self.houses) + " " + str(self.log.count(("beat",))),
            "houses": [
                (name, house.plain.stand(), house.is_open, tuple(house.came), tuple(house.rows), self.ledger(name))
                for name, house in self.houses.items()
            ],
        }


def looks_of(keeper):
    """The same of a KEEPER."""
    return {
        "names": keeper.names(), "log": keeper.log(), "str": str(keeper),
        "houses": [
            (name, keeper.stand_of(name), keeper.is_open(name), keeper.came(name), keeper.rows_of(name),
             keeper.ledger(name))
            for name in keeper.names()
        ],
    }


def replayed_plain(plant, stand, rows):
    """A plain KEEPER to which rows were done, all of them let."""
    keeper = PlainKeeper(plant, stand)
    for row in rows:
        keeper.act(row)
    return keeper
