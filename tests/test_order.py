"""Points [24], [25], [26]: which STANDS are NO LESS, and their PAIRINGS."""

import unittest
from itertools import product

from handsmade.order import is_no_less, lets_pairing, pairing
from handsmade.stands import full_stand, void_stand
from plain import all_stands, making_list, no_less, pairings
from samples import BIG, MILL, ODD, PLANT, TINY, changed, refusal
from test_kinds import NO_NUMBERS

STAND = ((3, 1), ((2, 1), (1, 0)), 4, ((("leaf", "cup", 1), 2), (("tool", "cup"), 2)), 2, 1)


def leaf(light, left=1, name="pen"):
    return (("leaf", name, light), left)


def with_makings(*makings):
    return changed(STAND, 3, tuple(sorted(makings)))


class NoLess(unittest.TestCase):
    def over(self, one, other):
        self.assertIs(is_no_less(one, other), True, (one, other))
        self.assertIs(is_no_less(stand=one, other=other), True)

    def not_over(self, one, other):
        self.assertIs(is_no_less(one, other), False, (one, other))

    def above(self, one, other):
        self.over(one, other)
        self.not_over(other, one)

    def test_itself(self):
        self.over(STAND, STAND)

    def test_one_number_at_a_time(self):
        self.above(changed(STAND, 0, (3, 2)), STAND)
        self.above(STAND, changed(STAND, 0, (2, 1)))
        self.above(changed(STAND, 2, 5), STAND)
        self.above(changed(STAND, 5, 2), STAND)

    def test_one_more_another_less(self):
        for one, other in (
            (changed(STAND, 0, (2, 2)), STAND), (changed(changed(STAND, 0, (3, 2)), 2, 3), STAND),
            (changed(changed(STAND, 2, 5), 5, 0), STAND), (changed(STAND, 1, ((2, 2), (1,))), STAND),
        ):
            self.not_over(one, other)
            self.not_over(other, one)

    def test_phase_has_to_be_the_same(self):
        for phase in (1, 3):
            self.not_over(changed(STAND, 4, phase), STAND)
            self.not_over(STAND, changed(STAND, 4, phase))

    def test_lights_one_by_one(self):
        for more, less in (
            ((2, 2), (2, 1)), ((2, 1), (1, 1)), ((2, 1), (1,)), ((0,), ()), ((0, 0), (0,)), ((2, 0, 0), (2, 0)),
            ((1, 1, 1), (1, 1)), ((2, 1, 1), (1, 1, 0)),
        ):
            for k in (0, 1):
                leaves = ((1,), (1,))
                self.above(
                    changed(STAND, 1, changed(leaves, k, more)), changed(STAND, 1, changed(leaves, k, less)),
                )

    def test_lights_that_go_neither_way(self):
        for one, other in (((2,), (1, 1)), ((2, 0), (1, 1)), ((2, 0, 0), (1, 1)), ((2, 2), (0, 0, 0))):
            self.not_over(changed(STAND, 1, (one, ())), changed(STAND, 1, (other, ())))
            self.not_over(changed(STAND, 1, (other, ())), changed(STAND, 1, (one, ())))

    def test_makings(self):
        self.above(with_makings(leaf(1)), with_makings())
        self.above(with_makings(leaf(1)), with_makings(leaf(0)))
        self.above(with_makings(leaf(2, 2), leaf(0)), with_makings(leaf(1, 2)))
        for other in ((leaf(1, 2),), (leaf(1, 1, "cup"),), ((("tool", "pen"), 1),), (leaf(1), leaf(0)), (leaf(2),)):
            self.not_over(with_makings(leaf(1)), with_makings(*other))

    def test_a_leaf_in_the_making_is_no_leaf(self):
        self.not_over(with_makings(leaf(2)), changed(with_makings(), 1, ((2, 1), (2, 1, 0))))

    def test_a_brighter_leaf_has_to_go_to_the_right_one(self):
        self.above(with_makings(leaf(2), leaf(0)), with_makings(leaf(1), leaf(0)))
        self.above(with_makings(leaf(2), leaf(1)), with_makings(leaf(2), leaf(0)))
        self.above(with_makings(leaf(1), leaf(2)), with_makings(leaf(0), leaf(1)))
        self.not_over(with_makings(leaf(2), leaf(0)), with_makings(leaf(1), leaf(1)))
        self.not_over(with_makings(leaf(1), leaf(1)), with_makings(leaf(2), leaf(0)))

    def test_all_of_a_little_works(self):
        stands = all_stands(TINY)[::17]
        for one in stands:
            for other in stands:
                self.assertIs(is_no_less(one, other), no_less(one, other), (one, other))

    def test_full_and_void(self):
        for plant in (TINY, PLANT, MILL):
            phases, rests = range(1, plant[4][1] + 1), range(plant[5][1] + 1)
            for phase, rest in product(phases, rests):
                full = full_stand(plant, phase=phase, rest=rest)
                self.over(full, void_stand(plant, phase=phase, rest=rest))
                self.not_over(full, void_stand(plant, phase=phase, rest=rest + 1))
        for stand in all_stands(TINY):
            self.over(stand, void_stand(TINY, phase=stand[4]))
            if stand[3] == ():
                self.over(full_stand(TINY, phase=stand[4], rest=stand[5]), stand)

    def test_an_order(self):
        stands = all_stands(TINY)[::23]
        under = {one: [other for other in stands if is_no_less(one, other)] for one in stands}
        for one in stands:
            self.assertIn(one, under[one])
            for other in under[one]:
                self.assertTrue(set(under[other]) <= set(under[one]))
                self.assertTrue(other == one or one not in under[other])


class Pairings(unittest.TestCase):
    def test_told_is_one_of_all(self):
        four = changed(MILL, 6, 4)
        rows = [making for making in making_list(four) if making[0][1] == "b"]
        makings = [tuple(sorted(row)) for many in (0, 1, 2) for row in product(rows, repeat=many)]
        for one, other in product(makings[::3], makings):
            stand, less = changed(void_stand(four), 3, one), changed(void_stand(four), 3, other)
            told = pairing(stand, less)
            if told is None:
                self.assertEqual(pairings(stand, less), [])
            else:
                self.assertIn(told, pairings(stand, less))
                self.assertIs(lets_pairing(stand, less, told), True)

    def test_of_three_makings(self):
        lights = range(4)
        for row in product(lights, repeat=5):
            stand, other = with_makings(*[leaf(n) for n in row[:3]]), with_makings(*[leaf(n) for n in row[3:]])
            told = pairing(stand, other)
            self.assertEqual(told is None, pairings(stand, other) == [])
            if told is not None:
                self.assertIs(lets_pairing(stand=stand, other=other, thing=told), True)

    def test_told_is_a_tuple_of_numbers(self):
        self.assertEqual(pairing(STAND, void_stand(PLANT)), ())
        self.assertEqual(pairing(stand=STAND, other=STAND), (0, 1))
        self.assertIsNone(pairing(void_stand(PLANT), STAND))

    def test_pairings_ask_for_makings_alone(self):
        self.assertEqual(pairing(changed(void_stand(PLANT), 3, STAND[3]), STAND), (0, 1))

    def test_let_by_are_all_pairings_and_none_else(self):
        stands = [
            with_makings(), with_makings(leaf(0)), with_makings(leaf(2), leaf(0)), with_makings(leaf(1), leaf(1)),
            with_makings(leaf(2), leaf(1), leaf(2, 2)), with_makings((("tool", "cup"), 1), leaf(1, 1, "cup")),
            with_makings((("tool", "cup"), 1), (("tool", "cup"), 1), (("tool", "pen"), 1)),
        ]
        for one, other in product(stands, repeat=2):
            rights = pairings(one, other)
            for many in range(5):
                for thing in product(range(4), repeat=many):
                    self.assertEqual(refusal(lets_pairing, one, other, thing) is None, thing in rights)


class PairingRefusals(unittest.TestCase):
    def refused(self, one, other, thing, word, at):
        # Fields are told by their names in order: at, word.
        self.assertEqual(refusal(lets_pairing, one, other, thing), ("NoPaper", at, word), thing)

    def test_shape(self):
        for thing in ODD + [[0, 1], (0, [1]), (0, (1,)), "01"]:
            numbers = isinstance(thing, tuple) and all(part.__class__ is int and part >= 0 for part in thing)
            if not numbers:
                self.refused(STAND, STAND, thing, "shape", -1)
        for odd in NO_NUMBERS:
            self.refused(STAND, STAND, (0, odd), "shape", -1)
            self.refused(STAND, STAND, (odd, 1), "shape", -1)
            self.refused(STAND, STAND, (odd,), "shape", -1)

    def test_many(self):
        for thing in ((), (0,), (0, 1, 0), (5, 5, 5, 5)):
            self.refused(STAND, STAND, thing, "many", -1)
        self.refused(STAND, void_stand(PLANT), (0,), "many", -1)
        self.refused(void_stand(PLANT), STAND, (), "many", -1)

    def test_number(self):
        self.refused(STAND, STAND, (2, 1), "number", 0)
        self.refused(STAND, STAND, (0, 2), "number", 1)
        self.refused(STAND, STAND, (0, BIG), "number", 1)
        self.refused(STAND, STAND, (0, 0), "number", 1)
        self.refused(STAND, STAND, (1, 1), "number", 1)
        self.refused(void_stand(PLANT), STAND, (0, 1), "number", 0)
        three = with_makings(leaf(1), leaf(1), leaf(1))
        self.refused(three, three, (2, 0, 2), "number", 2)
        self.refused(three, three, (2, 2, 9), "number", 1)

    def test_pair(self):
        one = with_makings(leaf(1), leaf(2))
        for other, at in (
            (with_makings(leaf(1, 2), leaf(2)), 0), (with_makings(leaf(1), leaf(2, 2)), 1),
            (with_makings(leaf(2), leaf(2)), 0), (with_makings((("tool", "pen"), 1), leaf(1)), 1),
            (with_makings(leaf(1, 1, "cup"), leaf(1)), 0), (with_makings(leaf(1, 2), leaf(2, 2)), 0),
        ):
            self.refused(one, other, (0, 1), "pair", at)
        self.assertIs(lets_pairing(one, one, (0, 1)), True)
        self.refused(one, one, (1, 0), "pair", 1)
        self.assertIs(lets_pairing(one, with_makings(leaf(1), leaf(0)), (1, 0)), True)

    def test_the_first_told_goes(self):
        other = with_makings(leaf(2), leaf(2))
        one = with_makings(leaf(1), leaf(1))
        self.refused(one, other, (True,), "shape", -1)
        self.refused(one, other, (9,), "many", -1)
        self.refused(one, other, (9, 0), "number", 0)
        # All numbers go ahead of all pairs.
        self.refused(one, other, (0, 9), "number", 1)
        self.refused(one, other, (0, 0), "number", 1)
        self.refused(one, other, (0, 1), "pair", 0)


if __name__ == "__main__":
    unittest.main()
