"""Points [5], [44], [45], [46]: the NEXT of a STAND, its QUIET WEB and its WEB."""

import unittest

from handsmade.bounds import MOST
from handsmade.order import is_no_less
from handsmade.stands import full_stand, void_stand
from handsmade.strikes import strikes_at, struck, struck_so, ways_of
from handsmade.turns import turn_led, turns_of
from handsmade.webs import next_of, quiet_web, whole_web
from plain import some_stands
from samples import ASKED, DRIPS, MILL, NEEDY, PAIR, PLANT, SLOW, SMALL, TINY, TWINS, changed, refusal
from webplain import pairs_from, web_from

LITTLE = (TINY, SMALL, ASKED, DRIPS, SLOW, NEEDY)
CUP = (("tool", "cup"), 2)
PEN = (("tool", "pen"), 1)


class Next(unittest.TestCase):
    def test_of_one_that_can_do_nothing(self):
        self.assertEqual(next_of(PLANT, void_stand(PLANT)), (void_stand(PLANT, phase=2),))
        self.assertEqual(next_of(works=PLANT, stand=void_stand(PLANT)), (void_stand(PLANT, phase=2),))

    def test_by_hand(self):
        stand = ((0,), ((1,),), 1, (), 2, 1)
        self.assertEqual(next_of(TINY, stand), (
            ((0,), ((0, 0),), 0, (), 1, 0), ((0,), ((1,),), 1, (), 1, 0),
        ))

    def test_two_turns_to_one_stand_are_one(self):
        told = next_of(PLANT, changed(void_stand(PLANT), 3, (PEN, PEN)))
        self.assertEqual(len(told), len(set(told)))
        self.assertEqual(len(told), 3)

    def test_against_all_turns(self):
        cases = [(plant, stand) for plant in LITTLE for stand in some_stands(plant, 40)]
        cases += [(PLANT, full_stand(PLANT)), (MILL, full_stand(MILL)), (TWINS, full_stand(TWINS, rest=2))]
        for plant, stand in cases:
            led = {turn_led(plant, stand, turn)[0] for turn in turns_of(plant, stand)}
            told = next_of(plant, stand)
            self.assertEqual(told, tuple(sorted(led)), stand)
            self.assertIs(told.__class__, tuple)

    def test_against_the_plainest_way(self):
        for plant in LITTLE:
            for stand in some_stands(plant, 40):
                self.assertEqual(next_of(plant, stand), tuple(sorted({there for there, _ in pairs_from(plant, stand)})))


class Webs(unittest.TestCase):
    def test_by_hand(self):
        void = void_stand(TINY, rest=1)
        self.assertEqual(quiet_web(TINY, void), (
            ((0,), ((),), 0, (), 1, 0), ((0,), ((),), 0, (), 2, 1), ((0,), ((),), 1, (), 1, 0),
            ((0,), ((),), 1, (), 2, 0),
            ((0,), ((),), 2, (), 1, 0), ((0,), ((),), 2, (), 2, 0),
        ))

    def test_a_strike_at_the_stuff(self):
        # By strikes the store comes down again; a strike leaves a rest of 1, which the beat behind it takes.
        self.assertEqual(quiet_web(TINY, ((0,), ((),), 2, (), 1, 0)),
                         (((0,), ((),), 2, (), 1, 0), ((0,), ((),), 2, (), 2, 0)))
        self.assertEqual(whole_web(TINY, ((0,), ((),), 2, (), 1, 0)), (
            ((0,), ((),), 0, (), 1, 0), ((0,), ((),), 1, (), 1, 0), ((0,), ((),), 1, (), 2, 0),
            ((0,), ((),), 2, (), 1, 0), ((0,), ((),), 2, (), 2, 0),
        ))

    def test_against_the_plainest_way(self):
        for plant in LITTLE:
            for stand in some_stands(plant, 12):
                self.assertEqual(quiet_web(plant, stand), tuple(sorted(web_from(plant, stand, True))), stand)
                self.assertEqual(whole_web(plant, stand), tuple(sorted(web_from(plant, stand))), stand)

    def test_of_two_kinds(self):
        for stand in (full_stand(PAIR), full_stand(PAIR, rest=2),
                      ((0, 1), ((1,), (1, 0)), 0, ((("tool", "a"), 1),), 1, 1)):
            self.assertEqual(quiet_web(PAIR, stand), tuple(sorted(web_from(PAIR, stand, True))))
            self.assertEqual(whole_web(PAIR, stand), tuple(sorted(web_from(PAIR, stand))))

    def test_going_on(self):
        """Each has with each STAND the NEXT of it, as it is or STRUCK in each way, and none that nothing leads to."""
        for plant in (SMALL, ASKED):
            stand = full_stand(plant)
            quiet = quiet_web(plant, stand)
            whole = whole_web(plant, stand)
            self.assertEqual({there for one in quiet for there in next_of(plant, one)} | {stand}, set(quiet))
            places = [struck(plant, one, strike) for one in whole for strike in strikes_at(plant, one)] + list(whole)
            self.assertEqual({there for place in set(places) for there in next_of(plant, place)} | {stand}, set(whole))

    def test_no_more(self):
        for plant in (SMALL, ASKED):
            for stand in (full_stand(plant), void_stand(plant, rest=1)):
                for told in (quiet_web, whole_web):
                    web = told(plant, stand)
                    self.assertEqual(told(plant, stand, most=len(web)), web)
                    self.assertEqual(told(works=plant, stand=stand, most=len(web) + 1), web)
                    for most in (len(web) - 1, len(web) // 2, 0):
                        self.assertEqual(refusal(told, plant, stand, most=most), ("NoMore", most))

    def test_most_is_left_out(self):
        self.assertEqual(refusal(quiet_web, MILL, full_stand(MILL)), ("NoMore", MOST))
        self.assertEqual(refusal(whole_web, MILL, full_stand(MILL)), ("NoMore", MOST))

    def test_most_by_its_name_alone(self):
        for told in (quiet_web, whole_web):
            with self.assertRaises(TypeError):
                told(SMALL, full_stand(SMALL), 2000)

    def test_within_one_another(self):
        """[46]: the QUIET WEB is within the WEB; the one, the other, of each STAND in it is within it."""
        for plant in (SMALL, DRIPS):
            stand = full_stand(plant)
            quiet = set(quiet_web(plant, stand))
            whole = set(whole_web(plant, stand))
            self.assertLessEqual(quiet, whole)
            for there in sorted(quiet)[::7]:
                self.assertLessEqual(set(quiet_web(plant, there)), quiet)
            for there in sorted(whole)[::7]:
                self.assertLessEqual(set(whole_web(plant, there)), whole)

    def test_each_time_new(self):
        stand = full_stand(SMALL)
        self.assertEqual(whole_web(SMALL, stand), whole_web(SMALL, stand))
        self.assertEqual(stand, full_stand(SMALL))


class Ways(unittest.TestCase):
    def test_none_first(self):
        stand = full_stand(SMALL)
        self.assertEqual(ways_of(SMALL, stand), (None, ("leaf", "a", 2), ("tool", "a")))
        self.assertEqual(ways_of(SMALL, changed(stand, 5, 1)), (None,))
        self.assertEqual(struck_so(SMALL, stand, None), stand)
        self.assertEqual(struck_so(SMALL, stand, ("tool", "a")), struck(SMALL, stand, ("tool", "a")))


class More(unittest.TestCase):
    def test_more_never_harms(self):
        """[46]: from what is no less there is to each NEXT of the other one that is no less."""
        for plant in (SMALL, DRIPS):
            stands = [stand for stand in some_stands(plant, 400) if stand[4] == 1]
            for stand in stands[::9]:
                nexts = next_of(plant, stand)
                for other in stands[::3]:
                    if is_no_less(stand, other):
                        for there in next_of(plant, other):
                            self.assertTrue(any(is_no_less(one, there) for one in nexts), (stand, other, there))


if __name__ == "__main__":
    unittest.main()
