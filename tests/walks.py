"""ROWS that go on and on, the same each time: which thing comes next is told by a plain row of numbers."""

from plain import Plain, deed_list, strike_list

BEAT = ("beat",)


def numbers(seed):
    """Numbers that look like chance and aren't."""
    while True:
        seed = (seed * 1103515245 + 12345) & 0x7FFFFFFF
        yield seed >> 8


def walk(plant, stand, many, seed):
    """A ROW of so many things from a STAND: deeds where some can be, strikes straight behind beats, beats else."""
    chance = numbers(seed)
    plain = Plain(plant, stand)
    row = []
    for _ in range(many):
        deeds = [deed for deed in deed_list(plant) if plain.barred(deed) is None]
        strikes = [("strike", strike) for strike in strike_list(plant) if plain.refused(strike) is None]
        if strikes and (row == [] or row[-1] == BEAT) and next(chance) % 7 == 0:
            thing = strikes[next(chance) % len(strikes)]
        elif deeds and next(chance) % 5 < 3:
            # Breaks would else be half of all that is done.
            makes = [deed for deed in deeds if deed[0] != "break"]
            thing = (makes or deeds)[next(chance) % len(makes or deeds)]
            if next(chance) % 6 == 0:
                thing = deeds[next(chance) % len(deeds)]
        else:
            thing = BEAT
        plain.act(thing)
        row.append(thing)
    return tuple(row)


def walks(plants, many, seeds):
    """WORKS, STANDS and ROWS from them."""
    for plant in plants:
        uses, sheets, bright, store = plant[3]
        kinds = len(plant[0])
        for seed in seeds:
            chance = numbers(seed * 7 + 1)
            stand = (
                tuple(next(chance) % (uses + 1) for _ in range(kinds)),
                tuple((bright,) * (next(chance) % sheets + 1) for _ in range(kinds)),
                next(chance) % (store + 1), (), next(chance) % plant[4][1] + 1, next(chance) % (plant[5][1] + 1),
            )
            yield plant, stand, walk(plant, stand, many, seed)
