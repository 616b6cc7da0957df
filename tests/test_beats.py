"""Points [4], [30], [32]: the BEAT."""

import unittest

from handsmade.beats import beat_passed
from handsmade.order import is_no_less
from handsmade.standchecker import is_right_stand
from handsmade.stands import full_stand, void_stand
from plain import Plain, all_stands, making_list
from samples import MILL, MIXED, PLANT, TINY, changed

CUP = ("tool", "cup")
PEN = ("tool", "pen")


def stand_of(*, uses=(0, 0), leaves=((), ()), store=0, makings=(), phase=3, rest=0):
    return (uses, leaves, store, tuple(makings), phase, rest)


class Beats(unittest.TestCase):
    def passes(self, stand, behind, comes=(), plant=PLANT):
        self.assertTrue(is_right_stand(plant, stand), stand)
        self.assertEqual(beat_passed(plant, stand), (behind, comes), stand)

    def test_nothing_on_the_benches(self):
        self.passes(stand_of(), stand_of(phase=2))
        self.assertEqual(beat_passed(works=PLANT, stand=stand_of(phase=2)), (stand_of(phase=1), ()))

    def test_left(self):
        for thing, left in ((CUP, 2), (("leaf", "cup", 0), 3), (("leaf", "pen", 1), 2), (("leaf", "pen", 2), 2)):
            self.passes(stand_of(makings=[(thing, left)]), stand_of(makings=[(thing, left - 1)], phase=2))

    def test_a_tool_ends(self):
        # A cup gives 2 uses and 1 back; a pen 1 use, and nothing back.
        self.passes(stand_of(makings=[(CUP, 1)]), stand_of(uses=(2, 0), store=1, phase=2), (CUP,))
        self.passes(stand_of(makings=[(PEN, 1)]), stand_of(uses=(0, 1), phase=2), (PEN,))

    def test_a_tool_ends_beyond_its_bound(self):
        for uses, behind in ((0, 2), (1, 3), (2, 3), (3, 3)):
            self.passes(
                stand_of(uses=(uses, 3), makings=[(CUP, 1)]), stand_of(uses=(behind, 3), store=1, phase=2), (CUP,),
            )
        # What comes comes, be it that the bound wastes it.
        self.passes(stand_of(uses=(0, 3), makings=[(PEN, 1)]), stand_of(uses=(0, 3), phase=2), (PEN,))

    def test_two_tools_end(self):
        self.passes(stand_of(makings=[(CUP, 1), (CUP, 1)]), stand_of(uses=(3, 0), store=2, phase=2), (CUP,))
        self.passes(stand_of(makings=[(CUP, 1), (PEN, 1)]), stand_of(uses=(2, 1), store=1, phase=2), (CUP, PEN))

    def test_back_above_the_stores_bound(self):
        for store, behind in ((4, 5), (5, 6), (6, 6)):
            self.passes(stand_of(store=store, makings=[(CUP, 1)]), stand_of(uses=(2, 0), store=behind, phase=2), (CUP,))
        self.passes(stand_of(store=5, makings=[(CUP, 1)] * 2), stand_of(uses=(3, 0), store=6, phase=2), (CUP,))

    def test_back_and_flow(self):
        for store, behind in ((2, 5), (3, 6), (4, 6), (6, 6)):
            self.passes(
                stand_of(store=store, makings=[(CUP, 1)], phase=1), stand_of(uses=(2, 0), store=behind, phase=3), (CUP,),
            )

    def test_flow_at_the_drip_alone(self):
        for phase in (3, 2):
            self.passes(stand_of(store=1, phase=phase), stand_of(store=1, phase=phase - 1))
        for store, behind in ((0, 2), (4, 6), (5, 6), (6, 6)):
            self.passes(stand_of(store=store, phase=1), stand_of(store=behind, phase=3))

    def test_a_drip_of_one(self):
        plant = changed(PLANT, 4, (2, 1))
        self.passes(stand_of(store=1, phase=1), stand_of(store=3, phase=1), plant=plant)

    def test_rest(self):
        for rest, behind in ((0, 0), (1, 0), (2, 1), (3, 2)):
            self.passes(stand_of(rest=rest), stand_of(rest=behind, phase=2))

    def test_a_leaf_ends(self):
        for light in (0, 1, 2):
            comes = () if light == 0 else (("leaf", "pen"),)
            self.passes(
                stand_of(makings=[(("leaf", "pen", light), 1)]), stand_of(leaves=((), (light,)), phase=2), comes,
            )

    def test_a_leaf_goes_in_its_order(self):
        for light, lights in ((0, (2, 1, 0)), (1, (2, 1, 1)), (2, (2, 2, 1))):
            behind, _ = beat_passed(PLANT, stand_of(leaves=((2, 1), ()), makings=[(("leaf", "cup", light), 1)]))
            self.assertEqual(behind[1], (lights, ()))

    def test_leaves_end_where_sheets_are_full(self):
        for lights, light, told in (
            ((2, 1, 1, 0), 2, (2, 2, 1, 1)), ((2, 1, 1, 0), 1, (2, 1, 1, 1)), ((2, 1, 1, 0), 0, (2, 1, 1, 0)),
            ((2, 2, 2, 2), 1, (2, 2, 2, 2)), ((1, 1, 1, 1), 2, (2, 1, 1, 1)), ((0, 0, 0), 2, (2, 0, 0, 0)),
        ):
            comes = () if light == 0 else (("leaf", "cup"),)
            self.passes(
                stand_of(leaves=(lights, ()), makings=[(("leaf", "cup", light), 1)]),
                stand_of(leaves=(told, ()), phase=2), comes,
            )

    def test_several_leaves_end(self):
        makings = [(("leaf", "cup", 0), 1), (("leaf", "cup", 2), 1)]
        for lights, told in (((), (2, 0)), ((1, 1, 1), (2, 1, 1, 1)), ((1, 1, 0, 0), (2, 1, 1, 0))):
            self.passes(
                stand_of(leaves=(lights, (1,)), makings=makings), stand_of(leaves=(told, (1,)), phase=2),
                (("leaf", "cup"),),
            )

    def test_comes_rise_and_have_nothing_twice(self):
        makings = [(("leaf", "cup", 1), 1), (("leaf", "pen", 0), 1), (("leaf", "pen", 2), 1), (CUP, 1), (PEN, 1)]
        wide = changed(PLANT, 6, 8)
        told = (("leaf", "cup"), ("leaf", "pen"), CUP, PEN)
        self.assertEqual(beat_passed(wide, stand_of(makings=makings))[1], told)
        twice = sorted(makings + [(CUP, 1), (("leaf", "cup", 2), 1)])
        self.assertEqual(beat_passed(wide, stand_of(makings=twice))[1], told)

    def test_some_end_others_go_on(self):
        makings = [(("leaf", "cup", 1), 1), (("leaf", "cup", 1), 3), (CUP, 1), (CUP, 2)]
        behind, comes = beat_passed(changed(PLANT, 6, 4), stand_of(makings=makings))
        self.assertEqual(behind[3], ((("leaf", "cup", 1), 2), (CUP, 1)))
        self.assertEqual(comes, (("leaf", "cup"), CUP))

    def test_against_the_plainest_way(self):
        for stand in all_stands(TINY):
            self.same(TINY, stand)
        for plant in (PLANT, MILL, MIXED):
            makings = making_list(plant)
            for phase in range(1, plant[4][1] + 1):
                for rest, filled in enumerate((void_stand(plant, phase=phase), full_stand(plant, phase=phase))):
                    for k, one in enumerate(makings):
                        for other in makings[k:]:
                            self.same(plant, changed(changed(filled, 3, (one, other)), 5, rest))

    def same(self, plant, stand):
        plain = Plain(plant, stand)
        comes = plain.beat()
        behind = beat_passed(plant, stand)
        self.assertEqual(behind, (plain.stand(), comes), stand)
        self.assertTrue(is_right_stand(plant, behind[0]), stand)

    def test_more_never_harms(self):
        stands = [stand for stand in all_stands(TINY) if stand[4:] in ((1, 0), (2, 1))]
        for stand in stands[::5]:
            behind, comes = beat_passed(TINY, stand)
            for other in stands[::7]:
                if is_no_less(stand, other):
                    less, fewer = beat_passed(TINY, other)
                    self.assertTrue(is_no_less(behind, less), (stand, other))
                    self.assertLessEqual(set(fewer), set(comes))


if __name__ == "__main__":
    unittest.main()
