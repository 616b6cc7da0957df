"""Points [44], [46]: TURNS."""

import unittest

from handsmade.beats import beat_passed
from handsmade.deeds import deeds_at, done
from handsmade.errors import NoRow
from handsmade.order import is_no_less
from handsmade.standchecker import is_right_stand
from handsmade.stands import full_stand, void_stand
from handsmade.turns import turn_led, turns_of
from plain import Plain, all_stands, deed_list
from samples import BIG, MILL, PLANT, TINY, changed

CUP = (("tool", "cup"), 2)
PEN = (("tool", "pen"), 1)
STAND = ((3, 3), ((1, 0), (1,)), 5, (CUP, PEN), 2, 1)


def plain_turns(plant, stand, ahead=()):
    """All TURNS, by trying each DEED behind each row."""
    found = [ahead]
    for deed in deed_list(plant):
        if deed[0] == "break" and any(other[0] != "break" for other in ahead):
            continue
        plain = Plain(plant, stand)
        if plain.barred(deed) is None:
            plain.do(deed)
            found += plain_turns(plant, plain.stand(), ahead + (deed,))
    return found


class Turns(unittest.TestCase):
    def test_none_can_be(self):
        self.assertEqual(turns_of(PLANT, void_stand(PLANT)), ((),))
        self.assertEqual(turns_of(works=PLANT, stand=void_stand(PLANT)), ((),))

    def test_breaks_of_two_makings(self):
        stand = changed(void_stand(PLANT), 3, (CUP, PEN))
        zero, one = ("break", 0), ("break", 1)
        self.assertEqual(turns_of(PLANT, stand), ((), (zero,), (zero, zero), (one,), (one, zero)))

    def test_what_is_made_in_a_turn_is_not_broken_in_it(self):
        stand = changed(STAND, 3, ())
        told = turns_of(PLANT, stand)
        self.assertEqual([turn for turn in told if "break" in [deed[0] for deed in turn]], [])
        self.assertIn((("make", "cup", 1), ("make", "pen", 1)), told)
        self.assertIn((("make", "pen", 1), ("make", "cup", 1)), told)

    def test_breaks_make_room(self):
        told = turns_of(PLANT, STAND)
        makes = (("make", "cup", 1), ("make", "pen", 1))
        self.assertNotIn(makes, told)
        self.assertNotIn((("break", 1),) + makes, told)
        self.assertIn((("break", 1), makes[0]), told)
        for first in (0, 1):
            self.assertIn((("break", first), ("break", 0)) + makes, told)
        self.assertNotIn((("break", 0), ("break", 1)), told)
        self.assertNotIn((("break", 0), makes[0], ("break", 0)), told)

    def test_against_going_through_all_rows(self):
        stands = [(TINY, stand) for stand in all_stands(TINY)[::13]]
        stands += [(PLANT, STAND), (PLANT, full_stand(PLANT)), (PLANT, changed(STAND, 3, (PEN, PEN)))]
        stands += [(MILL, void_stand(MILL)), (MILL, changed(full_stand(MILL), 1, ((3, 2), (1,), (0, 0))))]
        stands += [(changed(PLANT, 6, 1), changed(STAND, 3, (CUP,))), (changed(PLANT, 6, 3), STAND)]
        for plant, stand in stands:
            self.assertEqual(turns_of(plant, stand), tuple(sorted(plain_turns(plant, stand))), stand)

    def test_all_can_be_led(self):
        for plant, stand in ((PLANT, STAND), (PLANT, full_stand(PLANT)), (MILL, full_stand(MILL))):
            for turn in turns_of(plant, stand):
                there = stand
                for deed in turn:
                    there = done(plant, there, deed)
                behind, comes = turn_led(plant, stand, turn)
                self.assertEqual((behind, comes), beat_passed(plant, there))
                self.assertTrue(is_right_stand(plant, behind))


class Led(unittest.TestCase):
    def refused(self, turn, k, why, stand=STAND):
        with self.assertRaises(NoRow) as caught:
            turn_led(PLANT, stand, turn)
        self.assertEqual((caught.exception.k, caught.exception.why), (k, why), turn)

    def test_the_void_turn(self):
        behind = ((3, 3), ((1, 0), (1,)), 5, ((("tool", "cup"), 1),), 1, 0)
        self.assertEqual(turn_led(PLANT, STAND, ()), (behind, (("tool", "pen"),)))
        self.assertEqual(turn_led(works=PLANT, stand=STAND, turn=()), (behind, (("tool", "pen"),)))

    def test_a_turn(self):
        turn = (("break", 0), ("copy", "pen", 1))
        behind = ((2, 2), ((1, 0), (0,)), 4, ((("leaf", "pen", 0), 2),), 1, 0)
        self.assertEqual(turn_led(PLANT, STAND, turn), (behind, (("tool", "pen"),)))

    def test_comes_rise(self):
        stand = changed(STAND, 3, ((("leaf", "pen", 2), 1), (("tool", "cup"), 1)))
        self.assertEqual(turn_led(PLANT, stand, ())[1], (("leaf", "pen"), ("tool", "cup")))
        dark = changed(STAND, 3, ((("leaf", "pen", 0), 1), (("tool", "cup"), 1)))
        self.assertEqual(turn_led(PLANT, dark, ())[1], (("tool", "cup"),))
        twice = changed(STAND, 3, ((("tool", "cup"), 1), (("tool", "cup"), 1)))
        self.assertEqual(turn_led(PLANT, twice, ())[1], (("tool", "cup"),))
        self.assertEqual(turn_led(PLANT, twice, (("break", 1), ("break", 0)))[1], ())

    def test_what_is_made_comes_in_its_last_beat(self):
        stand = changed(STAND, 3, ())
        self.assertEqual(turn_led(PLANT, stand, (("make", "pen", 1),))[1], (("tool", "pen"),))
        self.assertEqual(turn_led(PLANT, stand, (("make", "cup", 1),))[1], ())

    def test_a_break_behind_another_deed(self):
        stand = changed(STAND, 3, (PEN,))
        self.refused((("make", "pen", 1), ("break", 0)), 1, "turn", stand)
        self.refused((("break", 0), ("copy", "cup", 1), ("break", 0), ("break", 9)), 2, "turn", stand)
        # Be it one of no making.
        self.refused((("make", "pen", 1), ("break", BIG)), 1, "turn", stand)

    def test_a_deed_that_is_barred(self):
        for deed, why in (
            (("make", "no", 1), "kind"), (("make", "cup", 0), "leaf"), (("copy", "pen", 2), "leaf"),
            (("agree", "cup", (1, 0)), "leaf"), (("agree", "cup", (1, 0, 0)), "leaf"), (("make", "cup", BIG), "leaf"),
        ):
            stand = changed(STAND, 3, ())
            self.refused((deed,), 0, why, stand)
            self.refused((("make", "pen", 1), deed), 1, why, stand)
            self.refused((deed, ("make", "no", 1), ("break", 0)), 0, why, stand)
        self.refused((("make", "pen", 1),), 0, "bench")
        self.refused((("break", 2),), 0, "making")
        self.refused((("break", 1), ("break", 1)), 1, "making")
        self.refused((("break", 1), ("make", "pen", 1), ("make", "cup", 1)), 2, "bench")
        empty = changed(STAND, 3, ())
        self.refused((("make", "cup", 1),), 0, "tool", changed(empty, 0, (3, 0)))
        self.refused((("make", "cup", 1),), 0, "stuff", changed(empty, 2, 2))
        self.refused((("make", "cup", 1), ("copy", "pen", 1)), 1, "tool", changed(empty, 0, (1, 2)))

    def test_any_tuple_of_deeds(self):
        for plant, stand in ((TINY, ((2,), ((1, 1),), 2, ((("tool", "a"), 1),), 1, 0)), (TINY, full_stand(TINY))):
            rights = turns_of(plant, stand)
            deeds = deed_list(plant)
            for turn in [(one, other) for one in deeds for other in deeds] + [(one,) for one in deeds] + [()]:
                if turn in rights:
                    turn_led(plant, stand, turn)
                else:
                    with self.assertRaises(NoRow) as caught:
                        turn_led(plant, stand, turn)
                    k = caught.exception.k
                    self.assertIn(turn[:k], rights)
                    self.assertNotIn(turn[:k + 1], rights)


class QuietRows(unittest.TestCase):
    def test_turns_do_as_to_what_comes(self):
        """[46]: what DEEDS in any order and a beat lead to, some TURN and the BEAT lead to what is no less."""
        for stand in all_stands(TINY)[5::97]:
            led = [turn_led(TINY, stand, turn) for turn in turns_of(TINY, stand)]
            found = [stand]
            for _ in range(3):
                found = sorted({done(TINY, there, deed) for there in found for deed in deeds_at(TINY, there)} | {stand})
                for there in found:
                    behind, comes = beat_passed(TINY, there)
                    self.assertTrue(
                        any(is_no_less(other, behind) and set(comes) <= set(more) for other, more in led), (stand, there),
                    )

    def test_more_never_harms(self):
        """[46]: from what is no less there is to each NEXT of the other one that is no less, and no less COMES."""
        stands = [stand for stand in all_stands(TINY) if stand[4:] == (1, 0)]
        for stand in stands[::17]:
            led = [turn_led(TINY, stand, turn) for turn in turns_of(TINY, stand)]
            for other in stands[::19]:
                if is_no_less(stand, other):
                    for turn in turns_of(TINY, other):
                        behind, comes = turn_led(TINY, other, turn)
                        self.assertTrue(any(is_no_less(there, behind) and set(comes) <= set(more) for there, more in led))


if __name__ == "__main__":
    unittest.main()
