"""Point [23]: the VOID STAND and the FULL one."""

import unittest

from handsmade.stands import full_stand, void_stand
from samples import changed, kind, works


class Stands(unittest.TestCase):
    def setUp(self):
        self.one = changed(changed(works(kind("a")), 3, (4, 3, 2, 5)), 4, (1, 6))
        self.three = changed(changed(works(kind("a"), kind("b"), kind("c")), 3, (2, 5, 3, 0)), 4, (0, 1))

    def test_void(self):
        self.assertEqual(void_stand(self.one), ((0,), ((),), 0, (), 6, 0))
        self.assertEqual(void_stand(works=self.three), ((0, 0, 0), ((), (), ()), 0, (), 1, 0))

    def test_full(self):
        self.assertEqual(full_stand(self.one), ((4,), ((2, 2, 2),), 5, (), 6, 0))
        self.assertEqual(full_stand(works=self.three), ((2, 2, 2), ((3,) * 5,) * 3, 0, (), 1, 0))

    def test_phase_and_rest_told(self):
        for phase in range(1, 7):
            for rest in range(4):
                self.assertEqual(void_stand(self.one, phase=phase, rest=rest)[3:], ((), phase, rest))
                self.assertEqual(full_stand(self.one, rest=rest, phase=phase)[3:], ((), phase, rest))

    def test_phase_is_drip_where_it_is_none(self):
        for told in (void_stand, full_stand):
            self.assertEqual(told(self.one, phase=None)[4:], (6, 0))
            self.assertEqual(told(self.one, phase=None, rest=2)[4:], (6, 2))

    def test_each_may_be_left_out(self):
        for told in (void_stand, full_stand):
            self.assertEqual(told(self.one, phase=2)[4:], (2, 0))
            self.assertEqual(told(self.one, rest=3)[4:], (6, 3))

    def test_phase_and_rest_by_their_names_alone(self):
        for told in (void_stand, full_stand):
            with self.assertRaises(TypeError):
                told(self.one, 1)
            with self.assertRaises(TypeError):
                told(self.one, 1, 0)

    def test_told_are_tuples_and_numbers(self):
        for told in (void_stand(self.three), full_stand(self.three)):
            classes = [thing.__class__ for thing in told]
            self.assertEqual(classes, [tuple, tuple, int, tuple, int, int])
            self.assertEqual({part.__class__ for part in told[1]}, {tuple})


if __name__ == "__main__":
    unittest.main()
