"""Points [40], [41]: how often leaves can be read."""

import unittest

from bunches import bunches, endless, most_times
from handsmade.bunchdeeds import bunch_run
from handsmade.fatepapers import fate_paper
from handsmade.fates import most_of
from handsmade.glow import glow_of

SIZES = [(many, bright) for many in (2, 3, 4) for bright in (1, 2, 3)]


class Most(unittest.TestCase):
    def test_told(self):
        self.assertEqual(most_of((1,), "make", many=3, bright=1), 1)
        self.assertEqual(most_of((0, 0), "make", many=3, bright=1), 0)
        self.assertEqual(most_of((), "make", many=2, bright=3), 0)
        self.assertEqual(most_of(bright=3, many=4, word="copy", lights=()), 0)
        self.assertEqual(most_of((0,), "copy", many=2, bright=3), 0)
        self.assertIsNone(most_of((0, 0), "make", many=2, bright=2))
        self.assertEqual(most_of((0, 0), "make", many=2, bright=1), 1)
        self.assertIsNone(most_of((0, 0), "copy", many=2, bright=1))

    def test_the_lights_and_not_the_glow_alone(self):
        for bright in (1, 2, 3):
            self.assertEqual(glow_of((1,)), glow_of((0, 0)))
            self.assertEqual(most_of((1,), "make", many=3, bright=bright), 1)
            self.assertEqual(most_of((0, 0), "make", many=3, bright=bright), 0)

    def test_against_going_through_all(self):
        for many, bright in SIZES + [(5, 1), (5, 2), (7, 2)]:
            for lights in bunches(bright, 5)[::1 if bright == 1 else 3]:
                for word in ("make", "copy"):
                    told = most_of(lights, word, many=many, bright=bright)
                    if endless(lights, word, many, bright):
                        self.assertIsNone(told)
                    else:
                        self.assertEqual(told, most_times(lights, word, many, bright), (lights, word, many, bright))
                        self.assertIs(told.__class__, int)

    def test_endless_is_endless(self):
        """Where none is told, a row goes on as often as one likes: the paper's ring, gone round and round."""
        for many, bright in SIZES:
            for lights in bunches(bright, 3):
                for word in ("make", "copy"):
                    if most_of(lights, word, many=many, bright=bright) is None:
                        _, ahead, ring = fate_paper(lights, word, many=many, bright=bright)
                        self.assertIn(word, [deed[0] for deed in ring])
                        bunch_run(lights, ahead + ring * 20, many=many, bright=bright)

    def test_it_is_not_always_best_to_make_at_once(self):
        """Of (2,), many 4, bright 2, two "make"s at once are all; four leaves copied out agree on a new one."""
        row = (("copy", 2), ("copy", 1), ("copy", 1), ("agree", (0, 0, 0, 0)), ("make", 2), ("make", 1))
        self.assertEqual(bunch_run((2,), row, many=4, bright=2)[-1], (0,))
        self.assertEqual(most_of((2,), "make", many=4, bright=2), 2)
        self.assertEqual(most_of((2, 0, 0, 0), "make", many=4, bright=2), most_times((2, 0, 0, 0), "make", 4, 2))

    def test_more_never_harms(self):
        for many, bright in SIZES:
            some = bunches(bright, 3)
            for word in ("make", "copy"):
                told = {lights: most_of(lights, word, many=many, bright=bright) for lights in some}
                for one in some:
                    for other in some:
                        if len(one) >= len(other) and all(map(int.__ge__, one, other)):
                            self.assertTrue(told[one] is None or told[other] is not None and told[one] >= told[other])

    def test_bounds_by_their_names_alone(self):
        with self.assertRaises(TypeError):
            most_of((1,), "make", 2, 1)


if __name__ == "__main__":
    unittest.main()
