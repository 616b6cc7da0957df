"""Points [34], [36] (M1): the LEDGER."""

import unittest

from handsmade.errors import NoRow
from handsmade.ledger import ledger_of
from handsmade.standrows import run
from handsmade.stands import full_stand, void_stand
from plain import Plain
from samples import BIG, MILL, MIXED, PLANT, TINY, changed
from walks import walks

BEAT = ("beat",)
CUP = ("tool", "cup")
PEN = ("tool", "pen")
COPY = ("leaf", "cup", 1)
BRIGHT = ("leaf", "cup", 2)
STUFF = ("strike", ("stuff",))


def stand_of(*, uses=(0, 0), leaves=((), ()), store=0, makings=(), phase=3, rest=0):
    return (uses, leaves, store, tuple(makings), phase, rest)


class Ledger(unittest.TestCase):
    """In PLANT a cup takes 3 and gives 1 back, a pen takes 1, a copy 1, an "agree" 2; flow is 2, blow 2, store to 6."""

    def tells(self, stand, row, told, plant=PLANT):
        self.assertEqual(ledger_of(plant, stand, row), told, row)

    def test_the_void_row(self):
        self.tells(stand_of(), (), (0, 0, 0, 0, 0))
        self.tells(stand_of(store=4), (), (4, 0, 0, 0, 4))
        self.assertEqual(ledger_of(works=PLANT, stand=stand_of(store=4), row=()), (4, 0, 0, 0, 4))

    def test_stuff_in_makings(self):
        for thing, takes in ((CUP, 3), (PEN, 1), (COPY, 1), (("leaf", "cup", 0), 1), (BRIGHT, 2)):
            self.tells(stand_of(store=2, makings=[(thing, 1)]), (), (2 + takes, 0, 0, 0, 2 + takes))
        self.tells(stand_of(makings=[(BRIGHT, 2), (CUP, 1)]), (), (5, 0, 0, 0, 5))

    def test_deeds_move_stuff(self):
        stand = stand_of(uses=(3, 3), leaves=((2, 1, 0, 0), (1,)), store=6)
        for deed in (("make", "cup", 2), ("copy", "cup", 1), ("agree", "cup", (2, 1, 0)), ("make", "pen", 1)):
            self.tells(stand, (deed,), (6, 0, 0, 0, 6))

    def test_what_ends(self):
        self.tells(stand_of(makings=[(CUP, 1)]), (BEAT,), (3, 0, 2, 0, 1))
        self.tells(stand_of(makings=[(PEN, 1)]), (BEAT,), (1, 0, 1, 0, 0))
        self.tells(stand_of(makings=[(COPY, 1)]), (BEAT,), (1, 0, 1, 0, 0))
        self.tells(stand_of(makings=[(BRIGHT, 1)]), (BEAT,), (2, 0, 2, 0, 0))
        self.tells(stand_of(makings=[(BRIGHT, 2)]), (BEAT,), (2, 0, 0, 0, 2))

    def test_what_is_broken_off(self):
        for thing, takes in ((CUP, 3), (PEN, 1), (COPY, 1), (BRIGHT, 2)):
            self.tells(stand_of(store=1, makings=[(thing, 1)]), (("break", 0),), (1 + takes, 0, takes, 0, 1))

    def test_the_spring(self):
        self.tells(stand_of(store=1, phase=1), (BEAT,), (1, 2, 0, 0, 3))
        self.tells(stand_of(store=1, phase=2), (BEAT,), (1, 0, 0, 0, 1))
        self.tells(stand_of(), (BEAT,) * 9, (0, 6, 0, 0, 6))

    def test_what_is_over_the_stores_bound(self):
        self.tells(stand_of(store=5, phase=1), (BEAT,), (5, 2, 1, 0, 6))
        self.tells(stand_of(store=6, phase=1), (BEAT,), (6, 2, 2, 0, 6))
        self.tells(stand_of(store=6, makings=[(CUP, 1)]), (BEAT,), (9, 0, 3, 0, 6))
        self.tells(stand_of(store=5, makings=[(CUP, 1)], phase=1), (BEAT,), (8, 2, 4, 0, 6))
        self.tells(stand_of(), (BEAT,) * 12, (0, 8, 2, 0, 6))

    def test_strikes(self):
        self.tells(stand_of(store=5), (STUFF,), (5, 0, 0, 2, 3))
        self.tells(stand_of(store=1), (STUFF,), (1, 0, 0, 1, 0))
        for thing, takes in ((CUP, 3), (PEN, 1), (COPY, 1), (BRIGHT, 2)):
            stand = stand_of(store=1, makings=[(thing, 1)])
            self.tells(stand, (("strike", ("making", 0)),), (1 + takes, 0, 0, takes, 1))
        rich = stand_of(uses=(3, 3), leaves=((2,), ()), store=4)
        self.tells(rich, (("strike", ("tool", "cup")),), (4, 0, 0, 0, 4))
        self.tells(rich, (("strike", ("leaf", "cup", 2)),), (4, 0, 0, 0, 4))

    def test_a_row(self):
        stand = stand_of(uses=(1, 3), leaves=((2, 2, 0, 0), ()), store=6, phase=1)
        row = (
            STUFF, ("make", "cup", 2), ("copy", "cup", 1), BEAT, ("break", 0), ("agree", "cup", (2, 0, 0)), BEAT,
            BEAT, ("strike", ("stuff",)), BEAT,
        )
        # 2 are struck; of 4 a cup takes 3, a copy 1; 2 are sprung; the copy is broken off; the "agree" takes 2;
        # the cup ENDs, 1 comes back; the leaf ENDs; 1 is struck; 2 are sprung.
        self.tells(stand, row, (6, 4, 1 + 2 + 2, 3, 2))

    def test_against_the_plainest_way(self):
        for plant, stand, row in walks((TINY, PLANT, MILL, MIXED), 30, range(24)):
            plain = Plain(plant, stand)
            begun = plain.stuff()
            for thing in row:
                plain.act(thing)
            told = ledger_of(plant, stand, row)
            self.assertEqual(told, (begun, plain.sprung, plain.ash, plain.struck, plain.stuff()))
            self.assertEqual(told[0] + told[1], sum(told[2:]))

    def test_a_row_cut_at_any_place(self):
        for plant, stand, row in walks((TINY, PLANT, MILL), 24, range(5)):
            stands, _ = run(plant, stand, row)
            whole = ledger_of(plant, stand, row)
            for k in range(len(row) + 1):
                first, second = ledger_of(plant, stand, row[:k]), ledger_of(plant, stands[k], row[k:])
                self.assertEqual(first[4], second[0])
                added = [one + other for one, other in zip(first[1:4], second[1:4])]
                self.assertEqual((first[0], *added, second[4]), whole)

    def test_refused_as_run(self):
        for plant, stand in ((PLANT, void_stand(PLANT)), (MILL, full_stand(MILL))):
            for row in (
                (7,), (BEAT, True), (BEAT, ["beat"]), (("make", "no", 1),), (BEAT, ("break", 0)), (BEAT, ("break", BIG)),
                (("strike", ("tool", "no")),), (("strike", ("making", 0)),), (BEAT, ("break", True)),
                (BEAT, ("strike", ("making", 0)), STUFF), (("agree", "a", (0, 1)),),
            ):
                with self.assertRaises(NoRow) as caught:
                    run(plant, stand, row)
                with self.assertRaises(NoRow) as again:
                    ledger_of(plant, stand, row)
                self.assertEqual(vars(again.exception), vars(caught.exception))
        with self.assertRaises(NoRow) as caught:
            ledger_of(PLANT, changed(void_stand(PLANT), 2, 3), (STUFF, STUFF))
        self.assertEqual((caught.exception.k, caught.exception.why), (1, "strike"))


if __name__ == "__main__":
    unittest.main()
