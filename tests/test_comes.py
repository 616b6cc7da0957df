"""Points [6], [46], [47], [48]: what can come from a STAND, how soon, and by which QUIET ROW."""

import unittest

from handsmade.alive import goods_to_come, is_alive
from handsmade.bounds import MOST
from handsmade.comes import beats_to, quiet_row
from handsmade.order import is_no_less
from handsmade.standrows import run
from handsmade.stands import full_stand, void_stand
from handsmade.webs import quiet_web
from plain import some_stands
from samples import ASKED, DRIPS, FALLING, MILL, NEEDY, PAIR, SLOW, SMALL, TINY, TWINS, changed, good_list, refusal
from webplain import quiet_beats

LITTLE = (TINY, SMALL, ASKED, DRIPS, SLOW, NEEDY, FALLING)
LEAF = ("leaf", "a")
TOOL = ("tool", "a")


class Beats(unittest.TestCase):
    def looked(self, plant, stand, good, beats):
        self.assertEqual(beats_to(plant, stand, good), beats, (stand, good))
        row = quiet_row(plant, stand, good)
        if beats is None:
            self.assertIsNone(row)
            return
        self.assertIs(row.__class__, tuple)
        self.assertEqual(row[-1], ("beat",))
        self.assertEqual([thing for thing in row if thing[0] == "strike"], [])
        _, come = run(plant, stand, row)
        self.assertEqual(len(come), beats)
        self.assertEqual([good in comes for comes in come], [False] * (beats - 1) + [True], (stand, good, row))

    def test_by_hand(self):
        # A bright leaf is read at once; a dark one has to wait until two agree, and a lone one never does.
        self.looked(SMALL, ((0,), ((1,),), 0, (), 1, 0), TOOL, 1)
        self.looked(SMALL, ((0,), ((0, 0),), 0, (), 1, 0), LEAF, 1)
        self.looked(SMALL, ((0,), ((0, 0),), 0, (), 1, 0), TOOL, 2)
        self.looked(SMALL, ((0,), ((0,),), 0, (), 1, 0), LEAF, None)
        self.looked(SMALL, ((1,), ((0,),), 0, (), 1, 0), TOOL, None)
        # A copy of light 0 doesn't COME.
        self.looked(SMALL, ((0,), ((1,),), 0, (), 1, 0), LEAF, 2)
        self.looked(SMALL, ((0,), ((2,),), 0, (), 1, 0), LEAF, 1)

    def test_what_is_on_the_benches(self):
        stand = ((0,), ((),), 0, ((TOOL, 1),), 1, 0)
        self.looked(SMALL, stand, TOOL, 1)
        self.looked(SMALL, stand, LEAF, None)
        stand = ((0,), ((),), 0, ((("leaf", "a", 0), 1), (("leaf", "a", 2), 1)), 1, 0)
        self.looked(SMALL, stand, LEAF, 1)
        self.looked(SMALL, stand, TOOL, 2)
        stand = ((0,), ((),), 0, ((("leaf", "a", 0), 1), (("leaf", "a", 0), 1)), 1, 0)
        self.looked(SMALL, stand, LEAF, 2)
        self.looked(SMALL, stand, TOOL, 3)
        stand = ((0,), ((),), 0, ((("leaf", "a", 3), 2),), 1, 0)
        self.looked(SLOW, stand, LEAF, 2)

    def test_stuff_that_has_to_spring(self):
        for phase in (1, 2):
            # AGREEING takes a grain, which comes with the drip.
            self.looked(DRIPS, ((0,), ((0, 0),), 0, (), phase, 0), LEAF, phase + 1)
            self.looked(DRIPS, ((0,), ((0, 0),), 1, (), phase, 0), LEAF, 1)
            self.looked(changed(DRIPS, 4, (0, 2)), ((0,), ((0, 0),), 0, (), phase, 0), LEAF, None)

    def test_a_break_that_makes_room(self):
        one_bench = changed(SMALL, 6, 1)
        slow = changed(one_bench, 0, (("a", (), 0, 4, 1, 0),))
        self.looked(slow, ((0,), ((2,),), 0, ((TOOL, 4),), 1, 0), LEAF, 1)
        self.looked(slow, ((0,), ((2,),), 0, ((TOOL, 4),), 1, 0), TOOL, 4)

    def test_strikes_are_none_of_it(self):
        for rest in (0, 1, 3):
            self.looked(SMALL, ((0,), ((1,),), 0, (), 1, rest), LEAF, 2)

    def test_against_going_through_all(self):
        """By all QUIET ROWS, DEEDS in any order: TURNS do as well ([46])."""
        cases = [(plant, stand) for plant in LITTLE for stand in some_stands(plant, 15)]
        cases += [(PAIR, full_stand(PAIR)), (PAIR, ((0, 0), ((1,), (1, 0)), 1, ((("tool", "a"), 1),), 1, 0))]
        for plant, stand in cases:
            told = quiet_beats(plant, stand)
            for good in good_list(plant):
                self.looked(plant, stand, good, told.get(good))
            self.assertEqual(goods_to_come(plant, stand), tuple(sorted(told)), stand)
            self.assertIs(is_alive(plant, stand), len(told) == 2 * len(plant[0]))

    def test_of_two_kinds(self):
        stand = ((0, 0), ((2, 2), (0,)), 0, (), 1, 0)
        for good, beats in ((("leaf", "a"), 1), (("tool", "a"), 1), (("leaf", "b"), None), (("tool", "b"), None)):
            self.looked(TWINS, stand, good, beats)
        self.looked(TWINS, ((0, 0), ((2,), (2,)), 0, (), 1, 0), ("tool", "b"), 2)
        self.assertEqual(goods_to_come(TWINS, stand), (("leaf", "a"), ("tool", "a")))
        self.assertIs(is_alive(TWINS, stand), False)
        self.assertIs(is_alive(TWINS, ((0, 0), ((2,), (2,)), 0, (), 1, 0)), True)

    def test_no_more(self):
        for plant, stand in ((SMALL, full_stand(SMALL)), (ASKED, full_stand(ASKED)),
                             (SMALL, void_stand(SMALL, rest=3))):
            many = len(quiet_web(plant, stand))
            for good in (LEAF, TOOL):
                for told in (beats_to, quiet_row):
                    self.assertEqual(told(plant, stand, good, most=many), told(plant, stand, good))
                    # The good comes in the first beat; that doesn't matter.
                    for most in (many - 1, 1, 0):
                        self.assertEqual(refusal(told, plant, stand, good, most=most), ("NoMore", most))
            for told in (goods_to_come, is_alive):
                self.assertEqual(told(works=plant, stand=stand, most=many), told(plant, stand))
                for most in (many - 1, 1, 0):
                    self.assertEqual(refusal(told, plant, stand, most=most), ("NoMore", most))

    def test_most_is_left_out(self):
        full = full_stand(MILL)
        for told in (beats_to, quiet_row):
            self.assertEqual(refusal(told, MILL, full, ("leaf", "a")), ("NoMore", MOST))
        for told in (goods_to_come, is_alive):
            self.assertEqual(refusal(told, MILL, full), ("NoMore", MOST))

    def test_by_names(self):
        stand = full_stand(SMALL)
        self.assertEqual(beats_to(works=SMALL, stand=stand, good=TOOL, most=500), 1)
        self.assertEqual(quiet_row(works=SMALL, stand=stand, good=TOOL, most=500), (("make", "a", 2), ("beat",)))


class Alive(unittest.TestCase):
    def test_against_beats_to(self):
        for plant in LITTLE:
            for stand in some_stands(plant, 15):
                goods = tuple(good for good in sorted(good_list(plant)) if beats_to(plant, stand, good) is not None)
                told = goods_to_come(plant, stand)
                self.assertEqual(told, goods)
                self.assertIs(told.__class__, tuple)
                self.assertIs(is_alive(plant, stand), goods == tuple(sorted(good_list(plant))))

    def test_some_alone_can_come(self):
        seen = {goods_to_come(plant, stand) for plant in LITTLE for stand in some_stands(plant, 30)}
        self.assertEqual(seen, {(), (LEAF,), (TOOL,), (LEAF, TOOL)})

    def test_more_never_harms(self):
        """(M2): what can come from a STAND can from each that is NO LESS, and as soon."""
        for plant in (SMALL, DRIPS):
            stands = some_stands(plant, 80)
            told = {
                stand: {good: beats_to(plant, stand, good) for good in goods_to_come(plant, stand)} for stand in stands
            }
            for stand in stands:
                for other in stands:
                    if is_no_less(other, stand):
                        for good, beats in told[stand].items():
                            self.assertLessEqual(told[other][good], beats)


if __name__ == "__main__":
    unittest.main()
