"""Point [22]: any thing looked at as a STAND."""

import unittest

from handsmade.errors import NoPaper
from handsmade.standchecker import is_right_stand, lets_stand
from handsmade.stands import full_stand, void_stand
from plain import all_stands
from samples import BIG, MILL, MIXED, ODD, PLANT, TINY, changed
from test_kinds import NO_NUMBERS, NO_WORDS

CUP = ("tool", "cup")
STAND = ((3, 1), ((2, 1), (1, 0, 0)), 4, ((("leaf", "cup", 1), 2), (CUP, 2)), 2, 1)


class Looks(unittest.TestCase):
    def right(self, thing, plant=PLANT):
        self.assertIs(lets_stand(plant, thing), True, thing)
        self.assertIs(is_right_stand(plant, thing), True, thing)

    def wrong(self, thing, word, at, plant=PLANT):
        with self.assertRaises(NoPaper) as caught:
            lets_stand(plant, thing)
        self.assertEqual((caught.exception.word, caught.exception.at), (word, at), thing)
        self.assertIs(caught.exception.at.__class__, int)
        self.assertIs(is_right_stand(plant, thing), False, thing)


class RightStands(Looks):
    def test_let_by(self):
        self.right(STAND)
        self.assertIs(lets_stand(works=PLANT, thing=STAND), True)
        self.assertIs(is_right_stand(works=PLANT, thing=STAND), True)

    def test_void_and_full(self):
        for plant in (TINY, PLANT, MILL):
            for phase in range(1, plant[4][1] + 1):
                for rest in range(plant[5][1] + 1):
                    self.right(void_stand(plant, phase=phase, rest=rest), plant)
                    self.right(full_stand(plant, phase=phase, rest=rest), plant)

    def test_all_of_a_little_works(self):
        for stand in all_stands(TINY):
            self.right(stand, TINY)

    def test_nothing_there_is_right(self):
        for at, void in ((0, (0, 0)), (1, ((), ())), (2, 0), (3, ()), (5, 0)):
            self.right(changed(STAND, at, void))

    def test_a_making_twice_is_let_by(self):
        for making in ((CUP, 1), (CUP, 2), (("leaf", "pen", 2), 2), (("leaf", "pen", 0), 3)):
            self.right(changed(STAND, 3, (making, making)))


class Shapes(Looks):
    def test_other_things(self):
        for thing in ODD + [list(STAND), STAND[:5], STAND + (0,), (STAND,), STAND[1:]]:
            self.wrong(thing, "shape", -1)

    def test_lists_for_tuples(self):
        for at in (0, 1, 3):
            self.wrong(changed(STAND, at, list(STAND[at])), "shape", -1)
        self.wrong(changed(STAND, 1, ([2, 1], (1, 0))), "shape", -1)
        self.wrong(changed(STAND, 3, ([CUP, 2],)), "shape", -1)
        self.wrong(changed(STAND, 3, ((["tool", "cup"], 2),)), "shape", -1)

    def test_no_numbers(self):
        for odd in NO_NUMBERS:
            for at in (2, 4, 5):
                self.wrong(changed(STAND, at, odd), "shape", -1)
            self.wrong(changed(STAND, 0, (odd, 1)), "shape", -1)
            self.wrong(changed(STAND, 0, (1, odd)), "shape", -1)
            self.wrong(changed(STAND, 1, ((odd,), (1,))), "shape", -1)
            self.wrong(changed(STAND, 1, ((1,), (1, odd))), "shape", -1)
            self.wrong(changed(STAND, 3, ((CUP, odd),)), "shape", -1)
            self.wrong(changed(STAND, 3, ((("leaf", "cup", odd), 1),)), "shape", -1)

    def test_rows_that_are_none(self):
        for odd in (0, 1, True, None, "", "a", [], (None,), ("a",)):
            for at in (0, 1, 3):
                self.wrong(changed(STAND, at, odd), "shape", -1)
            self.wrong(changed(STAND, 1, ((), odd)), "shape", -1)

    def test_makings_of_no_kind(self):
        for name in NO_WORDS:
            self.wrong(changed(STAND, 3, ((("tool", name), 1),)), "shape", -1)
            self.wrong(changed(STAND, 3, ((("leaf", name, 1), 1),)), "shape", -1)
        for odd in (
            (CUP,), (CUP, 1, 1), (("tool", "cup", 1), 1), (("leaf", "cup"), 1), (("cup", "cup"), 1), (("leaf",), 1),
            (("leaf", "cup", 1, 1), 1), (("copy", "cup", 1), 1), ((True, "cup"), 1), CUP, (), 1, "tool", (1, CUP),
            (("stuff",), 1), ((), 1), ("tool", 1), (("tool", 1), 1),
        ):
            self.wrong(changed(STAND, 3, (odd,)), "shape", -1)
            self.wrong(changed(STAND, 3, ((CUP, 2), odd)), "shape", -1)

    def test_shape_alone_goes_by_kind(self):
        wide = ((BIG, BIG, BIG), ((0, BIG),), BIG, ((("tool", "no"), BIG), (("leaf", "no", BIG), 0)), 0, BIG)
        self.wrong(wide, "uses", -1)


class Numbers(Looks):
    def test_uses(self):
        self.right(changed(STAND, 0, (3, 3)))
        for k in (0, 1):
            self.wrong(changed(STAND, 0, changed((3, 3), k, 4)), "uses", k)
            self.wrong(changed(STAND, 0, changed((0, 0), k, BIG)), "uses", k)
        self.wrong(changed(STAND, 0, (4, 4)), "uses", 0)
        for uses in ((), (0,), (0, 0, 0), (9, 9, 9)):
            self.wrong(changed(STAND, 0, uses), "uses", -1)

    def test_how_many_leaves(self):
        for leaves in ((), ((),), ((), (), ()), ((9,),), ((0, 1), (0, 1), (0, 1))):
            self.wrong(changed(STAND, 1, leaves), "leaves", -1)
        for k in (0, 1):
            self.right(changed(STAND, 1, changed(((), ()), k, (2, 2, 1, 0))))
            self.wrong(changed(STAND, 1, changed(((), ()), k, (2, 2, 1, 0, 0))), "leaves", k)

    def test_lights(self):
        for k in (0, 1):
            self.right(changed(STAND, 1, changed(((1,), (1,)), k, (2, 2, 2, 2))))
            for lights in ((3,), (3, 0), (BIG, 1), (0, 1), (2, 1, 2), (2, 0, 1, 0), (1, 3)):
                self.wrong(changed(STAND, 1, changed(((1,), (1,)), k, lights)), "leaves", k)
        self.wrong(changed(STAND, 1, ((0, 1), (3,))), "leaves", 0)

    def test_store(self):
        self.right(changed(STAND, 2, 6))
        self.wrong(changed(STAND, 2, 7), "store", -1)
        self.wrong(changed(STAND, 2, BIG), "store", -1)

    def test_phase(self):
        for phase in (1, 2, 3):
            self.right(changed(STAND, 4, phase))
        for phase in (0, 4, BIG):
            self.wrong(changed(STAND, 4, phase), "phase", -1)

    def test_rest(self):
        for rest in (0, 1, 2, 3):
            self.right(changed(STAND, 5, rest))
        for rest in (4, BIG):
            self.wrong(changed(STAND, 5, rest), "rest", -1)


    def test_each_bound_is_its_own(self):
        full = full_stand(MIXED, rest=5)
        self.right(full, MIXED)
        for at, most, word in ((2, 7, "store"), (4, 8, "phase"), (5, 5, "rest")):
            for number in range(1, most + 1):
                self.right(changed(full, at, number), MIXED)
            self.wrong(changed(full, at, most + 1), word, -1, MIXED)
        for thing, most in (
            (("tool", "leaf"), 2), (("tool", "stuff"), 4), (("tool", "tool"), 3), (("leaf", "tool", 0), 6),
            (("leaf", "stuff", 1), 3),
        ):
            for left in range(1, most + 1):
                self.right(changed(full, 3, ((thing, left),) * 3), MIXED)
            self.wrong(changed(full, 3, ((thing, most + 1),)), "making", 0, MIXED)
        for light in (2, 3, 4):
            self.wrong(changed(full, 3, ((("leaf", "tool", light), 1),)), "making", 0, MIXED)
        self.wrong(changed(full, 3, ((("tool", "leaf"), 1),) * 4), "benches", -1, MIXED)


class Makings(Looks):
    def makings(self, *makings):
        return changed(STAND, 3, makings)

    def test_benches(self):
        self.right(self.makings((CUP, 1), (CUP, 2)))
        self.wrong(self.makings((CUP, 1), (CUP, 2), (CUP, 2)), "benches", -1)
        self.wrong(self.makings((CUP, 0), (CUP, 9), (("tool", "no"), 2)), "benches", -1)
        self.right(self.makings((CUP, 1))[:6], changed(PLANT, 6, 1))
        self.wrong(self.makings((CUP, 1), (CUP, 2)), "benches", -1, changed(PLANT, 6, 1))

    def test_names(self):
        for thing in (("tool", "no"), ("leaf", "no", 1), ("tool", "cups"), ("leaf", "cu", 0)):
            self.wrong(self.makings((thing, 1)), "making", 0)

    def test_left_of_each_thing(self):
        for thing, beats in (
            (CUP, 2), (("tool", "pen"), 1), (("leaf", "cup", 2), 2), (("leaf", "pen", 2), 2), (("leaf", "cup", 1), 3),
            (("leaf", "pen", 0), 3),
        ):
            for left in range(1, beats + 1):
                self.right(self.makings((thing, left)))
            for left in (0, beats + 1, BIG):
                self.wrong(self.makings((thing, left)), "making", 0)
                self.wrong(self.makings((("leaf", "cup", 0), 1), (thing, left)), "making", 1)

    def test_lights_of_leaves(self):
        for light in (3, 4, BIG):
            self.wrong(self.makings((("leaf", "pen", light), 1)), "making", 0)

    def test_makings_that_fall(self):
        rows = [(("leaf", "cup", 0), 1), (("leaf", "cup", 0), 3), (("leaf", "cup", 2), 1), (("leaf", "pen", 0), 2),
                (CUP, 1), (CUP, 2), (("tool", "pen"), 1)]
        for k, making in enumerate(rows):
            for j, other in enumerate(rows):
                if k <= j:
                    self.right(self.makings(making, other))
                else:
                    self.wrong(self.makings(making, other), "making", 1)

    def test_the_first_making_such(self):
        self.wrong(self.makings((CUP, 9), (CUP, 1)), "making", 0)
        self.wrong(self.makings((CUP, 2), (("tool", "no"), 1)), "making", 1)
        three = changed(PLANT, 6, 3)
        self.wrong(self.makings((CUP, 2), (CUP, 1), (CUP, 0)), "making", 1, three)
        self.wrong(self.makings((CUP, 1), (CUP, 1), (("leaf", "cup", 1), 1)), "making", 2, three)


class SeveralDue(Looks):
    def test_the_first_told_goes(self):
        faults = [
            ((0, (0,)), ("uses", -1)), ((0, (0, 4)), ("uses", 1)), ((1, ((),)), ("leaves", -1)),
            ((1, ((0, 1), ())), ("leaves", 0)), ((2, 7), ("store", -1)), ((3, ((CUP, 0),) * 3), ("benches", -1)),
            ((3, ((CUP, 2), (CUP, 3))), ("making", 1)), ((4, 0), ("phase", -1)), ((5, 4), ("rest", -1)),
        ]
        for k, ((at, thing), told) in enumerate(faults):
            for (other_at, other), _ in faults[k + 1:]:
                if at != other_at:
                    self.wrong(changed(changed(STAND, at, thing), other_at, other), *told)
        for (at, thing), _ in faults:
            odd = changed(changed(STAND, at, thing), 5 if at != 5 else 4, True)
            self.wrong(odd, "shape", -1)

    def test_of_one_works_and_not_of_another(self):
        self.wrong(STAND, "uses", -1, TINY)
        self.wrong(void_stand(PLANT), "uses", -1, MILL)
        self.wrong(changed(full_stand(TINY), 4, 3), "phase", -1, TINY)


if __name__ == "__main__":
    unittest.main()
