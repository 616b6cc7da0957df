"""Rows for KEEPERS that go on and on, the same each time, some of them refused."""

from plain import deed_list, strike_list

BEAT = ("beat",)
FRESH = ("mother", "cup", "pen", "cup", "pen")


def some_lot(plant, stand, chance):
    """A LOT that is IN the STAND, mostly."""
    uses = tuple(next(chance) % (many + 1) for many in stand[0])
    leaves = tuple(tuple(light for light in lights if next(chance) % 3 == 0) for lights in stand[1])
    store = next(chance) % (stand[2] + 1)
    if next(chance) % 6 == 0:
        return uses, leaves, store + 1
    if next(chance) % 9 == 0:
        return uses, tuple(lights + (0,) for lights in leaves), store
    return uses, leaves, store


def some_row(keeper, plant, chance):
    """A row that is done or refused; keeper tells names, stand_of and may."""
    names = list(keeper.names())
    name = names[next(chance) % len(names)]
    stand = keeper.stand_of(name)
    pick = next(chance) % 24
    if pick < 6:
        return BEAT
    if pick < 8:
        strikes = strike_list(plant)
        return "strike", name, strikes[next(chance) % len(strikes)]
    if pick < 10 and len(names) < 3:
        return "cut", name, FRESH[next(chance) % len(FRESH)], some_lot(plant, stand, chance)
    if pick < 12 and len(names) > 1:
        return "give", name, (names * 4 + ["house"])[next(chance) % (4 * len(names) + 1)], some_lot(plant, stand,
                                                                                                    chance)
    deeds = deed_list(plant)
    if pick < 21:
        deeds = list(keeper.may(name)) or deeds
    return "do", (name if next(chance) % 30 else "no"), deeds[next(chance) % len(deeds)]


def act(keeper, row):
    """What a KEEPER tells of a row, done by its own method."""
    word, *arguments = row
    return getattr(keeper, word)(*arguments)
