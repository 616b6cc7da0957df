"""Point [38]: BUNCHES, their GLOW, which is NO LESS."""

import unittest

from bunches import bunches
from handsmade.glow import bunch_covers, glow_of, is_bunch
from plain import covers_lights
from samples import BIG, ODD
from test_kinds import NO_NUMBERS, Telling


class Bunches(Telling):
    def test_bunches(self):
        for thing in ((), (0,), (1,), (BIG,), (0, 0), (2, 1, 0), (3, 3, 3), (BIG, BIG, 7, 0), (1,) * 5000):
            self.yes(is_bunch, thing)
        self.assertIs(is_bunch(thing=()), True)

    def test_lists(self):
        for thing in ([], [0], [2, 1], [()], ([],), ([1],), ((1,),), ((),)):
            self.no(is_bunch, thing)

    def test_lights_that_rise(self):
        for thing in ((0, 1), (2, 1, 2), (1, 0, 1), (0, 0, 1), (3, 2, 1, 0, 9)):
            self.no(is_bunch, thing)

    def test_no_numbers(self):
        for odd in NO_NUMBERS:
            self.no(is_bunch, (odd,))
            self.no(is_bunch, (2, odd))
            self.no(is_bunch, (odd, 0))

    def test_truths(self):
        for thing in ((True,), (False,), (1, False), (True, 0), (2, True, 0)):
            self.no(is_bunch, thing)

    def test_other_things(self):
        for thing in ODD:
            if thing not in ((), (1,)) or (thing and thing[0].__class__ is bool):
                self.no(is_bunch, thing)


class Glow(unittest.TestCase):
    def test_glow(self):
        self.assertEqual(glow_of(()), 0)
        self.assertEqual(glow_of((0,)), 1)
        self.assertEqual(glow_of((0, 0, 0)), 3)
        self.assertEqual(glow_of(lights=(3, 2, 1, 0)), 15)
        self.assertEqual(glow_of((3,) * 5), 40)
        self.assertEqual(glow_of((70,)), 2 ** 70)
        for lights in bunches(3, 5):
            self.assertEqual(glow_of(lights), sum({0: 1, 1: 2, 2: 4, 3: 8}[light] for light in lights))
            self.assertIs(glow_of(lights).__class__, int)

    def test_covers(self):
        for one, other, told in (
            ((), (), True), ((0,), (), True), ((), (0,), False), ((1,), (0,), True), ((0,), (1,), False),
            ((2, 1), (1, 1), True), ((2, 0), (1, 1), False), ((1, 1), (2,), False), ((2, 0, 0), (2, 0), True),
            ((2, 0), (2, 0, 0), False), ((3, 3), (0, 0, 0), False),
        ):
            self.assertIs(bunch_covers(one, other), told)
        self.assertIs(bunch_covers(one=(1,), other=(0,)), True)

    def test_covers_as_told(self):
        some = bunches(2, 4)
        for one in some:
            for other in some:
                self.assertIs(bunch_covers(one, other), covers_lights(one, other))


if __name__ == "__main__":
    unittest.main()
