"""What DOC.md says of STANDS, DEEDS, BEATS and STRIKES told again in the plainest way, with dicts and lists."""

from itertools import combinations_with_replacement, permutations, product


class Plain:
    """A STAND kept by names, and the stuff that came and went by the sorts of the LEDGER."""

    def __init__(self, plant, stand):
        kinds, copying, agreeing, bounds, spring, foe, self.benches = plant
        self.kinds = {one[0]: dict(zip(("name", "asks", "takes", "beats", "gives", "back"), one)) for one in kinds}
        self.copying = dict(zip(("asks", "takes", "beats"), copying))
        self.agreeing = dict(zip(("many", "takes", "beats"), agreeing))
        self.bounds = dict(zip(("uses", "sheets", "bright", "store"), bounds))
        self.flow, self.drip = spring
        self.blow, self.foe_rest = foe
        uses, leaves, self.store, makings, self.phase, self.rest = stand
        self.uses = dict(zip(self.kinds, uses))
        self.leaves = {name: list(lights) for name, lights in zip(self.kinds, leaves)}
        self.makings = list(makings)
        self.sprung = self.ash = self.struck = 0

    def stand(self):
        for lights in self.leaves.values():
            lights.sort(reverse=True)
        self.makings.sort()
        return (
            tuple(self.uses.values()), tuple(tuple(lights) for lights in self.leaves.values()), self.store,
            tuple(self.makings), self.phase, self.rest,
        )

    def needs(self, deed):
        """The asks, the stuff and the making of a DEED."""
        word, name, by = deed
        bright = self.bounds["bright"]
        if word == "make":
            told = self.kinds[name]
            return told["asks"], told["takes"], (("tool", name), told["beats"])
        if word == "copy":
            return self.copying["asks"], self.copying["takes"], (("leaf", name, by - 1), self.copying["beats"])
        return (), self.agreeing["takes"], (("leaf", name, bright), self.agreeing["beats"])

    def took(self, thing):
        if thing[0] == "tool":
            return self.kinds[thing[1]]["takes"]
        return self.agreeing["takes"] if thing[2] == self.bounds["bright"] else self.copying["takes"]

    def barred(self, deed):
        if deed[0] == "break":
            return None if deed[1] in range(len(self.makings)) else "making"
        if deed[1] not in self.kinds:
            return "kind"
        if len(self.makings) == self.benches:
            return "bench"
        leaves = self.leaves[deed[1]]
        if deed[0] == "agree":
            falls = list(deed[2]) == sorted(deed[2], reverse=True)
            if not falls or len(deed[2]) != self.agreeing["many"]:
                return "leaf"
            if any(deed[2].count(light) > leaves.count(light) for light in deed[2]):
                return "leaf"
        elif deed[2] == 0 or deed[2] not in leaves:
            return "leaf"
        asks, takes, _ = self.needs(deed)
        if any(self.uses[name] < many for name, many in asks):
            return "tool"
        return "stuff" if self.store < takes else None

    def do(self, deed):
        if deed[0] == "break":
            self.ash += self.took(self.makings.pop(deed[1])[0])
            return
        asks, takes, making = self.needs(deed)
        leaves = self.leaves[deed[1]]
        for light in deed[2] if deed[0] == "agree" else (deed[2],):
            leaves.remove(light)
        if deed[0] != "agree":
            leaves.append(deed[2] - 1)
        for name, many in asks:
            self.uses[name] -= many
        self.store -= takes
        self.makings.append(making)
        self.stand()

    def come(self, stuff):
        """Stuff that comes to the store; what is over its bound is ash."""
        over = max(0, self.store + stuff - self.bounds["store"])
        self.store += stuff - over
        self.ash += over

    def beat(self):
        comes = set()
        ended = [thing for thing, left in self.makings if left == 1]
        self.makings = [(thing, left - 1) for thing, left in self.makings if left > 1]
        for thing in ended:
            if thing[0] == "tool":
                told = self.kinds[thing[1]]
                self.uses[thing[1]] = min(self.bounds["uses"], self.uses[thing[1]] + told["gives"])
                self.ash += told["takes"] - told["back"]
                self.come(told["back"])
                comes.add(thing)
            else:
                row = self.leaves[thing[1]]
                self.ash += self.took(thing)
                row.append(thing[2])
                row.sort(reverse=True)
                del row[self.bounds["sheets"]:]
                if thing[2] != 0:
                    comes.add(thing[:2])
        self.phase -= 1
        if self.phase == 0:
            self.phase = self.drip
            self.sprung += self.flow
            self.come(self.flow)
        self.rest = max(0, self.rest - 1)
        return tuple(sorted(comes))

    def refused(self, strike):
        if self.rest != 0:
            return "rest"
        if strike[0] in ("tool", "leaf") and strike[1] not in self.kinds:
            return "kind"
        there = {
            "tool": lambda: self.uses[strike[1]] > 0,
            "leaf": lambda: strike[2] in self.leaves[strike[1]],
            "making": lambda: strike[1] in range(len(self.makings)),
            "stuff": lambda: self.store > 0,
        }[strike[0]]()
        return None if there else "gone"

    def strike(self, strike):
        if strike[0] == "tool":
            self.uses[strike[1]] = max(0, self.uses[strike[1]] - self.blow)
        if strike[0] == "leaf":
            self.leaves[strike[1]].remove(strike[2])
        if strike[0] == "making":
            self.struck += self.took(self.makings.pop(strike[1])[0])
        if strike[0] == "stuff":
            gone = min(self.blow, self.store)
            self.store -= gone
            self.struck += gone
        self.rest = self.foe_rest

    def stuff(self):
        return self.store + sum(self.took(thing) for thing, _ in self.makings)

    def act(self, thing):
        """A thing of a ROW, which has to be one that can be: what COMES of a beat, else None."""
        if thing == ("beat",):
            return self.beat()
        if thing[0] == "strike":
            assert self.refused(thing[1]) is None
            return self.strike(thing[1])
        assert self.barred(thing) is None
        return self.do(thing)


def falling(numbers, many):
    """All falling tuples of so many of these numbers."""
    return [part[::-1] for part in combinations_with_replacement(sorted(numbers), many)]


def deed_list(plant, *, names=None):
    """All DEEDS with a number at most one beyond what there can be, of these names, of the WORKS' own if None."""
    if names is None:
        names = [one[0] for one in plant[0]]
    many, bright = plant[2][0], plant[3][2]
    found = [("break", j) for j in range(plant[6] + 1)]
    for name in names:
        found += [(word, name, light) for word in ("make", "copy") for light in range(bright + 2)]
        found += [("agree", name, lights) for lights in falling(range(bright + 2), many)]
    return sorted(found)


def strike_list(plant):
    """All STRIKES with a number at most one beyond what there can be."""
    found = [("stuff",)] + [("making", j) for j in range(plant[6] + 1)]
    for one in plant[0]:
        found += [("tool", one[0])] + [("leaf", one[0], light) for light in range(plant[3][2] + 2)]
    return sorted(found)


def making_list(plant):
    """All makings that there can be, rising."""
    kinds, copying, agreeing, bounds = plant[:4]
    found = []
    for one in kinds:
        found += [(("tool", one[0]), left) for left in range(1, one[3] + 1)]
        found += [(("leaf", one[0], light), left) for light in range(bounds[2]) for left in range(1, copying[2] + 1)]
        found += [(("leaf", one[0], bounds[2]), left) for left in range(1, agreeing[2] + 1)]
    return sorted(found)


def all_stands(plant):
    """All RIGHT STANDS of a WORKS, a little one."""
    many = len(plant[0])
    most, sheets, bright, store = plant[3]
    rows = [lights for length in range(sheets + 1) for lights in falling(range(bright + 1), length)]
    makings = [
        row for length in range(plant[6] + 1) for row in combinations_with_replacement(making_list(plant), length)
    ]
    return [
        (uses, leaves, stuff, row, phase, rest)
        for uses in product(range(most + 1), repeat=many)
        for leaves in product(rows, repeat=many)
        for stuff in range(store + 1)
        for row in makings
        for phase in range(1, plant[4][1] + 1)
        for rest in range(plant[5][1] + 1)
    ]


def some_stands(plant, many):
    """About so many of all RIGHT STANDS of a little works, the void and the full one among them."""
    stands = all_stands(plant)
    uses, sheets, bright, store = plant[3]
    kinds = len(plant[0])
    void = ((0,) * kinds, ((),) * kinds, 0, (), plant[4][1], 0)
    full = ((uses,) * kinds, ((bright,) * sheets,) * kinds, store, (), plant[4][1], 0)
    return stands[::max(1, len(stands) // many)] + [full, void]


def covers_making(one, other):
    """Whether one making may be paired with the other, which is to have it."""
    (thing, left), (what, beats) = one, other
    if left != beats:
        return False
    return thing == what or (thing[0] == what[0] == "leaf" and thing[1] == what[1] and thing[2] >= what[2])


def pairings(stand, other):
    """All PAIRINGS of two STANDS."""
    there = range(len(stand[3]))
    return [
        numbers for numbers in permutations(there, len(other[3]))
        if all(covers_making(stand[3][k], making) for k, making in zip(numbers, other[3]))
    ]


def covers_lights(one, other):
    """Whether the LIGHTS are as many or more, and one by one no less."""
    return len(one) >= len(other) and all(one[k] >= other[k] for k in range(len(other)))


def no_less(stand, other):
    """Whether a STAND is NO LESS than another one."""
    return (
        stand[4] == other[4] and stand[5] >= other[5] and stand[2] >= other[2]
        and all(map(int.__ge__, stand[0], other[0])) and all(map(covers_lights, stand[1], other[1]))
        and pairings(stand, other) != []
    )
