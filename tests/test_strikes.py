"""Points [5], [31], [32]: STRIKES."""

import unittest

from handsmade.errors import NoDeed
from handsmade.order import is_no_less
from handsmade.standchecker import is_right_stand
from handsmade.stands import full_stand, void_stand
from handsmade.strikes import strikes_at, struck
from plain import Plain, all_stands, strike_list
from samples import BIG, MILL, MIXED, PLANT, TINY, changed

CUP = (("tool", "cup"), 2)
PEN = (("tool", "pen"), 1)
STAND = ((3, 1), ((2, 1, 1, 0), (1,)), 4, (CUP, PEN), 2, 0)


class Strikes(unittest.TestCase):
    def behind(self, strike, *told, stand=STAND, plant=PLANT):
        for_told = changed(stand, 5, plant[5][1])
        for at, part in told:
            for_told = changed(for_told, at, part)
        self.assertEqual(struck(plant, stand, strike), for_told, strike)

    def refused(self, strike, why, stand=STAND, plant=PLANT):
        with self.assertRaises(NoDeed) as caught:
            struck(plant, stand, strike)
        self.assertIs(caught.exception.deed, strike)
        self.assertEqual(caught.exception.why, why)

    def test_tool(self):
        # A blow is 2: so many uses go, or all.
        self.behind(("tool", "cup"), (0, (1, 1)))
        self.behind(("tool", "pen"), (0, (3, 0)))
        self.behind(("tool", "cup"), (0, (0, 1)), stand=changed(STAND, 0, (2, 1)))
        self.behind(("tool", "cup"), (0, (0, 1)), stand=changed(STAND, 0, (1, 1)))

    def test_leaf(self):
        self.behind(("leaf", "cup", 2), (1, ((1, 1, 0), (1,))))
        self.behind(("leaf", "cup", 1), (1, ((2, 1, 0), (1,))))
        self.behind(("leaf", "cup", 0), (1, ((2, 1, 1), (1,))))
        self.behind(("leaf", "pen", 1), (1, ((2, 1, 1, 0), ())))

    def test_making(self):
        self.behind(("making", 0), (3, (PEN,)))
        self.behind(("making", 1), (3, (CUP,)))
        for j in (0, 1):
            self.behind(("making", j), (3, (CUP,)), stand=changed(STAND, 3, (CUP, CUP)))

    def test_stuff(self):
        for store, left in ((6, 4), (4, 2), (2, 0), (1, 0)):
            self.behind(("stuff",), (2, left), stand=changed(STAND, 2, store))

    def test_a_blow_of_other_sizes(self):
        for blow in (1, 3, 9):
            plant = changed(PLANT, 5, (blow, 2))
            self.behind(("stuff",), (2, max(0, 4 - blow)), plant=plant)
            self.behind(("tool", "cup"), (0, (max(0, 3 - blow), 1)), plant=plant)
            self.behind(("leaf", "cup", 1), (1, ((2, 1, 0), (1,))), plant=plant)
            self.behind(("making", 1), (3, (CUP,)), plant=plant)

    def test_rest_is_the_foes_behind_it(self):
        for strike in (("stuff",), ("tool", "cup"), ("leaf", "pen", 1), ("making", 0)):
            self.assertEqual(struck(works=PLANT, stand=STAND, strike=strike)[5], 3)

    def test_rest(self):
        for rest in (1, 2, 3):
            resting = changed(STAND, 5, rest)
            for strike in (("stuff",), ("tool", "cup"), ("leaf", "pen", 1), ("making", 0)):
                self.refused(strike, "rest", resting)
            # Ahead of all that is refused else.
            for strike in (("tool", "no"), ("leaf", "no", 1), ("leaf", "cup", 9), ("making", 7)):
                self.refused(strike, "rest", resting)
            self.refused(("stuff",), "rest", changed(resting, 2, 0))

    def test_kind(self):
        for strike in (("tool", "no"), ("leaf", "no", 1), ("leaf", "no", BIG), ("tool", "stuff"), ("leaf", "cups", 0)):
            self.refused(strike, "kind")
            self.refused(strike, "kind", void_stand(PLANT))

    def test_gone(self):
        self.refused(("tool", "cup"), "gone", changed(STAND, 0, (0, 3)))
        self.refused(("tool", "pen"), "gone", changed(STAND, 0, (3, 0)))
        for light in (0, 2, 3, BIG):
            self.refused(("leaf", "pen", light), "gone")
        for j in (2, 3, BIG):
            self.refused(("making", j), "gone")
        self.refused(("making", 0), "gone", changed(STAND, 3, ()))
        self.refused(("stuff",), "gone", changed(STAND, 2, 0))

    def test_nothing_there(self):
        for strike in strike_list(PLANT):
            self.refused(strike, "gone", void_stand(PLANT))

    def test_a_making_of_a_tool_is_no_use_of_it(self):
        self.refused(("tool", "cup"), "gone", changed(void_stand(PLANT), 3, (CUP,)))


class AllStrikes(unittest.TestCase):
    def test_of_some(self):
        self.assertEqual(strikes_at(works=PLANT, stand=STAND), (
            ("leaf", "cup", 0), ("leaf", "cup", 1), ("leaf", "cup", 2), ("leaf", "pen", 1), ("making", 0), ("making", 1),
            ("stuff",), ("tool", "cup"), ("tool", "pen"),
        ))
        self.assertEqual(strikes_at(PLANT, void_stand(PLANT)), ())
        self.assertEqual(strikes_at(PLANT, full_stand(PLANT)), (
            ("leaf", "cup", 2), ("leaf", "pen", 2), ("stuff",), ("tool", "cup"), ("tool", "pen"),
        ))
        for rest in (1, 2, 3):
            self.assertEqual(strikes_at(PLANT, changed(STAND, 5, rest)), ())

    def test_against_going_through_all(self):
        stands = [(TINY, stand) for stand in all_stands(TINY)]
        for plant in (PLANT, MILL, MIXED):
            stands += [(plant, void_stand(plant)), (plant, full_stand(plant)), (plant, full_stand(plant, rest=1))]
        stands += [(PLANT, STAND), (PLANT, changed(STAND, 0, (0, 2))), (PLANT, changed(STAND, 2, 0))]
        for plant, stand in stands:
            told = []
            for strike in strike_list(plant):
                plain = Plain(plant, stand)
                if plain.refused(strike) is None:
                    plain.strike(strike)
                    behind = struck(plant, stand, strike)
                    self.assertEqual(behind, plain.stand(), (stand, strike))
                    self.assertTrue(is_right_stand(plant, behind), (stand, strike))
                    told.append(strike)
                else:
                    with self.assertRaises(NoDeed) as caught:
                        struck(plant, stand, strike)
                    self.assertEqual(caught.exception.why, plain.refused(strike))
            self.assertEqual(strikes_at(plant, stand), tuple(told), stand)

    def test_more_never_harms(self):
        """[32]: however the one is STRUCK, the other, STRUCK in some way or as it is, is no more."""
        stands = [stand for stand in all_stands(TINY) if stand[4] == 1 and stand[5] == 0]
        for stand in stands[::5]:
            ways = [struck(TINY, stand, strike) for strike in strikes_at(TINY, stand)]
            for other in stands[::7]:
                if is_no_less(stand, other):
                    others = [other] + [struck(TINY, other, strike) for strike in strikes_at(TINY, other)]
                    for way in ways:
                        self.assertTrue(any(is_no_less(way, less) for less in others), (way, other))


if __name__ == "__main__":
    unittest.main()
