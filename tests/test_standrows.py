"""Points [33], [36], and [14], [16], [18] over rows: ROWS."""

import unittest

from handsmade.barrens import barren_goods
from handsmade.births import ever_come
from handsmade.errors import NoRow
from handsmade.standchecker import is_right_stand
from handsmade.standrows import run
from handsmade.stands import full_stand, void_stand
from plain import Plain
from samples import BIG, MILL, MIXED, ODD, PLANT, TINY, changed
from walks import walks

BEAT = ("beat",)
STUFF = ("strike", ("stuff",))
STAND = ((1, 2), ((2, 1, 0, 0), (1,)), 5, ((("tool", "pen"), 1),), 2, 0)
MAKE = ("make", "cup", 2)


class Rows(unittest.TestCase):
    def test_the_void_row(self):
        self.assertEqual(run(PLANT, STAND, ()), ((STAND,), ()))
        self.assertEqual(run(works=PLANT, stand=STAND, row=()), ((STAND,), ()))

    def test_a_row(self):
        row = (STUFF, MAKE, BEAT, ("break", 0), BEAT, BEAT, BEAT, ("strike", ("leaf", "pen", 1)))
        struck = changed(changed(STAND, 2, 3), 5, 3)
        made = ((1, 1), ((1, 1, 0, 0), (1,)), 0, ((("tool", "cup"), 2), (("tool", "pen"), 1)), 2, 3)
        beat = ((1, 2), ((1, 1, 0, 0), (1,)), 0, ((("tool", "cup"), 1),), 1, 2)
        broken = changed(beat, 3, ())
        second = (*broken[:2], 2, (), 3, 1)
        third = (*broken[:2], 2, (), 2, 0)
        fourth = (*broken[:2], 2, (), 1, 0)
        last = ((1, 2), ((1, 1, 0, 0), ()), 2, (), 1, 3)
        stands = (STAND, struck, made, beat, broken, second, third, fourth, last)
        self.assertEqual(run(PLANT, STAND, row), (stands, ((("tool", "pen"),), (), (), ())))

    def test_against_the_plainest_way(self):
        for plant, stand, row in walks((TINY, PLANT, MILL, MIXED), 30, range(24)):
            plain = Plain(plant, stand)
            stands, come = [stand], []
            for thing in row:
                comes = plain.act(thing)
                stands.append(plain.stand())
                if thing == BEAT:
                    come.append(comes)
            told = run(plant, stand, row)
            self.assertEqual(told, (tuple(stands), tuple(come)))
            self.assertEqual([part.__class__ for part in told], [tuple, tuple])
            for there in told[0]:
                self.assertTrue(is_right_stand(plant, there))

    def test_a_beginning_has_the_beginning_and_the_rest_tells_the_rest(self):
        for plant, stand, row in walks((TINY, PLANT, MILL), 30, range(5)):
            stands, come = run(plant, stand, row)
            for k in range(len(row) + 1):
                ahead, first = run(plant, stand, row[:k])
                behind, second = run(plant, ahead[-1], row[k:])
                self.assertEqual((ahead + behind[1:], first + second), (stands, come))

    def test_strikes_are_as_far_apart_as_the_foe_rests(self):
        for plant, stand, row in walks((TINY, PLANT, MILL, MIXED), 30, range(24)):
            strikes = [k for k, thing in enumerate(row) if thing[0] == "strike"]
            for one, other in zip(strikes, strikes[1:]):
                self.assertGreaterEqual(row[one:other].count(BEAT), plant[5][1])

    def test_what_comes_in_a_quiet_row_comes_of_the_stock(self):
        """[18]: what is made, copied, comes is in EVER of the STAND's STOCK, nothing of a BARREN SET of it."""
        for plant, stand, row in walks((TINY, PLANT, MILL, MIXED), 30, range(24)):
            stands, come = run(plant, stand, row)
            quiet = next((k for k, thing in enumerate(row) if thing[0] == "strike"), len(row))
            beats = row[:quiet].count(BEAT)
            names = [one[0] for one in plant[0]]
            stock = {("tool", name) for name, many in zip(names, stand[0]) if many}
            stock |= {("leaf", name) for name, lights in zip(names, stand[1]) if lights}
            stock |= {thing[:2] for thing, _ in stand[3]}
            stock = tuple(sorted(stock))
            ever = ever_come(plant, stock)
            for thing in row[:quiet]:
                if thing[0] in ("make", "copy"):
                    self.assertIn(({"make": "tool", "copy": "leaf"}[thing[0]], thing[1]), ever)
            barren = barren_goods(plant, stock)
            for comes in come[:beats]:
                self.assertFalse(set(comes) & set(barren))


class Refused(unittest.TestCase):
    def refused(self, row, k, why, stand=STAND, plant=PLANT):
        with self.assertRaises(NoRow) as caught:
            run(plant, stand, row)
        self.assertEqual((caught.exception.k, caught.exception.why), (k, why), row)

    def refused_later_too(self, row, k, why, stand=STAND, plant=PLANT):
        for ahead in ((), (BEAT,), (BEAT, BEAT)):
            self.refused(ahead + row, k + len(ahead), why, stand, plant)

    def test_shape(self):
        for thing in ODD + [
            ["beat"], ("beat", 1), ("beats",), ("Beat",), "beat", ("strike",), ("strike", ()), ("strike", "stuff"),
            ("strike", ["stuff"]), ("strike", ("stuff",), 1), ["strike", ("stuff",)], ("stuff",), ("tool", "cup"),
            ("leaf", "cup", 1), ("making", 0), ("strike", ("tool", "Cup")), ("strike", ("making", True)),
            ("strike", ("leaf", "cup", -1)), ("strike", MAKE), ("strike", BEAT), ("strike", STUFF), ("beat", ("stuff",)),
            ("make", ("stuff",)), ("strikes", ("tool", "cup")), ("make", "cup", True),
            ("make", "cup", -1), ("make", "cup"), ("copy", "cup", None), ("break", True), ("break", -1), ("break", "0"),
            ("agree", "cup", (0, 1)), ("agree", "cup", (1,)), ("agree", "cup", [1, 0]), ("agree", "cup", (1, True)),
            ["make", "cup", 2], ("do", MAKE), (MAKE,), (BEAT,),
        ]:
            self.refused_later_too((thing,), 0, "shape")
            self.refused_later_too((MAKE, thing, STUFF, thing), 1, "shape")

    def test_a_strike_elsewhere(self):
        self.refused_later_too((MAKE, STUFF), 1, "strike")
        self.refused_later_too((STUFF, STUFF), 1, "strike")
        self.refused_later_too((STUFF, MAKE, STUFF), 2, "strike")
        self.refused((("break", 0), STUFF), 1, "strike")
        # Be it that it couldn't be made anyway, or names nothing.
        self.refused_later_too((MAKE, ("strike", ("tool", "no"))), 1, "strike")
        self.refused_later_too((STUFF, ("strike", ("making", BIG))), 1, "strike")

    def test_strikes_where_they_may_stand(self):
        run(PLANT, STAND, (STUFF,))
        run(PLANT, STAND, (BEAT, STUFF))
        run(PLANT, STAND, (MAKE, BEAT, STUFF))
        run(PLANT, STAND, (STUFF, BEAT, BEAT, BEAT, STUFF))

    def test_a_strike_is_refused(self):
        for strike, why in (
            (("tool", "no"), "kind"), (("leaf", "no", 1), "kind"), (("leaf", "cup", 7), "gone"), (("making", 2), "gone"),
        ):
            self.refused_later_too((("strike", strike),), 0, why)
        self.refused((STUFF, BEAT, STUFF), 2, "rest")
        self.refused((STUFF, BEAT, BEAT, STUFF), 3, "rest")
        self.refused((STUFF,), 0, "gone", changed(STAND, 2, 0))

    def test_a_deed_is_barred(self):
        for deed, why in (
            (("make", "no", 2), "kind"), (("break", 7), "making"), (("copy", "pen", 0), "leaf"),
            (("make", "pen", BIG), "leaf"), (("agree", "cup", (2, 1)), "leaf"), (("agree", "cup", (2, 2, 2)), "leaf"),
        ):
            self.refused_later_too((deed,), 0, why)
            self.refused_later_too((MAKE, deed), 1, why, changed(STAND, 3, ()))
        self.refused((("copy", "cup", 2),), 0, "tool", changed(STAND, 0, (0, 0)))
        self.refused((MAKE, ("make", "pen", 1)), 1, "bench")
        self.refused((MAKE,), 0, "stuff", changed(STAND, 2, 2))

    def test_the_first_thing_refused_goes(self):
        self.refused((MAKE, 7, ("make", "no", 1)), 1, "shape")
        self.refused((("make", "no", 1), 7), 0, "kind")
        self.refused((BEAT, MAKE, STUFF, 7), 2, "strike")

    def test_what_is_refused_changes_nothing(self):
        for stand in (void_stand(PLANT), full_stand(PLANT)):
            row = (BEAT, ("make", "no", 1))
            told = repr((PLANT, stand, row))
            self.refused(row, 1, "kind", stand)
            self.assertEqual(repr((PLANT, stand, row)), told)


if __name__ == "__main__":
    unittest.main()
