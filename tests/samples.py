"""Works and things that the tests share, and what DOC.md says of them told again in the plainest way."""

from itertools import combinations, product

from handsmade.errors import HandsError

# The greatest NUMBER of sixty figures.
BIG = 10 ** 60 - 1

COPYING = ((), 1, 2)
AGREEING = (2, 0, 1)
BOUNDS = (3, 2, 1, 6)
SPRING = (1, 2)
FOE = (1, 3)

# Things of many sorts, none of them a tuple that any form of the document has.
ODD = [
    True, False, None, 0, 1, -1, 2, BIG, -BIG, "", "a", "tool", "leaf", "stuff", "make", "1", "a b\nc",
    (), (1,), (True,), (None,), ("a",), ((),), ((), (), ()), ([],), [], [1], ["a"], [()], [["tool", "a"]],
    ("x", "a"), ("a", "tool"), (True, "a"), (1, 2), (None, None), ("stuff", "stuff"), (("stuff",),),
    (((((((((("a",),),),),),),),),),), [[[[[[[[[[1]]]]]]]]]],
]


def kind(name, *words, takes=1, beats=1, gives=1, back=0):
    """A KIND that asks one of each of these words."""
    return (name, tuple((word, 1) for word in sorted(words)), takes, beats, gives, back)


def works(*kinds, asks=()):
    """A WORKS of these KINDS, whose COPYING asks one of each of these words."""
    copying = (tuple((word, 1) for word in sorted(asks)), 1, 2)
    return (tuple(sorted(kinds)), copying, AGREEING, BOUNDS, SPRING, FOE, 2)


def changed(thing, at, other):
    """The tuple with another thing at this place."""
    return thing[:at] + (other,) + thing[at + 1:]


def subsets(things):
    """All tuples of these, each as they stand."""
    return [part for many in range(len(things) + 1) for part in combinations(things, many)]


def all_works(names, *, askings=None):
    """All works of these names with any asks, by COPYING's asks as told, else by all that there are."""
    if askings is None:
        askings = subsets(names)
    return [
        works(*[kind(name, *words) for name, words in zip(names, row)], asks=asks)
        for row in product(subsets(names), repeat=len(names))
        for asks in askings
    ]


def good_list(plant):
    """The GOODS of a WORKS."""
    return [(word, one[0]) for word in ("leaf", "tool") for one in plant[0]]


def straight(plant, good):
    """The GOODS on which this one HANGS STRAIGHT, as a set."""
    asks = {one[0]: one[1] for one in plant[0]}[good[1]] if good[0] == "tool" else plant[1][0]
    return {("leaf", good[1])} | {("tool", word) for word, _ in asks}


def hangs(plant):
    """Of each GOOD all on which it HANGS, by joining until nothing more comes."""
    told = {good: straight(plant, good) for good in good_list(plant)}
    for _ in told:
        told = {good: ons.union(*[told[other] for other in ons]) for good, ons in told.items()}
    return told


def ever(plant, stock):
    """EVER of a STOCK: the least of all sets that have each GOOD that HANGS STRAIGHT on it and the STOCK."""
    goods = good_list(plant)
    closed = [
        set(part) for part in subsets(goods)
        if all(good in part for good in goods if straight(plant, good) <= set(stock) | set(part))
    ]
    return set.intersection(*closed)


def reached(plant, stock):
    """EVER of a STOCK likewise, quicker: what can come, again and again."""
    come = set()
    for _ in good_list(plant):
        come = {good for good in good_list(plant) if straight(plant, good) <= come | set(stock)}
    return come


def starts(plant):
    """All STARTS of a WORKS, by looking at each STOCK that there is."""
    goods = good_list(plant)
    full = [set(stock) for stock in subsets(goods) if reached(plant, stock) == set(goods)]
    return sorted(tuple(sorted(stock)) for stock in full if not any(other < stock for other in full))


def is_barren(plant, stock, part):
    """Whether a set of GOODS is a BARREN SET of a STOCK."""
    return not set(part) & set(stock) and all(straight(plant, good) & set(part) for good in part)


# A works of one KIND with few STANDS, and two of more KINDS with all that can differ different.
TINY = ((("a", (("a", 1),), 1, 2, 2, 1),), ((), 1, 1), (2, 1, 1), (2, 2, 1, 2), (1, 2), (1, 1), 2)
PLANT = (
    (("cup", (("pen", 1),), 3, 2, 2, 1), ("pen", (), 1, 1, 1, 0)),
    ((("cup", 1), ("pen", 2)), 1, 3), (3, 2, 2), (3, 4, 2, 6), (2, 3), (2, 3), 2,
)
MILL = (
    (("a", (("b", 2), ("c", 1)), 4, 4, 3, 4), ("b", (), 0, 1, 1, 0), ("c", (("c", 1),), 2, 3, 4, 1)),
    ((), 2, 1), (2, 0, 3), (6, 5, 3, 6), (4, 2), (1, 2), 2,
)
# One in which no two numbers that could be taken for one another are the same; KINDS have the names of sorts.
MIXED = (
    (("leaf", (), 3, 2, 1, 1), ("stuff", (("leaf", 1),), 5, 4, 2, 3), ("tool", (), 1, 3, 3, 0)),
    ((), 4, 6), (2, 2, 3), (4, 3, 1, 7), (3, 8), (2, 5), 3,
)

# Works of one KIND of which some STANDS are kept: SMALL has none but leaves and tools; in ASKED copying asks two uses,
# and all but making takes stuff; in DRIPS the spring drips each second beat; in SLOW agreeing takes two beats.
SMALL = ((("a", (), 0, 1, 1, 0),), ((), 0, 1), (2, 0, 1), (1, 3, 2, 0), (1, 1), (1, 3), 2)
ASKED = ((("a", (), 0, 1, 3, 0),), ((("a", 2),), 1, 1), (2, 1, 1), (2, 3, 3, 2), (2, 1), (2, 3), 2)
DRIPS = ((("a", (), 0, 1, 3, 0),), ((), 0, 1), (2, 1, 1), (1, 2, 3, 1), (1, 2), (2, 3), 2)
SLOW = ((("a", (), 0, 1, 2, 0),), ((), 1, 1), (2, 0, 2), (2, 2, 3, 1), (2, 1), (1, 5), 2)
# One whose tool asks its like and costs stuff, with one bench; and one that falls in many rounds.
NEEDY = ((("a", (("a", 1),), 2, 1, 3, 2),), ((), 1, 1), (2, 1, 1), (2, 3, 3, 2), (2, 1), (1, 4), 1)
FALLING = ((("a", (), 1, 1, 3, 1),), ((("a", 1),), 0, 1), (2, 1, 1), (2, 3, 2, 1), (1, 1), (2, 3), 2)
# Works of which another one can be cut: WIDE has none but leaves and tools; in STUFF making takes two grains and gives
# one back, agreeing takes one, and two spring every second beat; in TAKING copying takes one, agreeing three.
WIDE = ((("a", (), 0, 1, 1, 0),), ((), 0, 1), (2, 0, 1), (1, 4, 3, 0), (0, 1), (1, 4), 2)
STUFF = ((("a", (), 2, 1, 1, 1),), ((), 0, 1), (2, 1, 1), (1, 3, 3, 3), (2, 2), (1, 6), 2)
TAKING = ((("a", (), 2, 1, 1, 1),), ((), 1, 1), (2, 3, 2), (1, 3, 3, 4), (3, 1), (1, 8), 2)
# One of two KINDS with a little WEB, all of which falls.
PAIR = (
    (("a", (("b", 1),), 1, 1, 1, 0), ("b", (), 0, 1, 2, 0)), ((), 0, 1), (2, 1, 1), (1, 2, 1, 1), (1, 1), (1, 2), 1,
)
# One of two KINDS of which some STANDS are kept, with a WEB of nearly MOST.
TWINS = (
    (("a", (), 0, 1, 1, 0), ("b", (("a", 1),), 0, 1, 1, 0)), ((), 0, 1), (2, 0, 1), (1, 2, 2, 0), (0, 1), (1, 5), 3,
)


def refusal(told, *arguments, **more):
    """The name and the fields of what is refused, None where nothing is."""
    try:
        told(*arguments, **more)
    except HandsError as error:
        return (error.__class__.__name__, *[value for _, value in sorted(vars(error).items())])
    return None
