"""Points [39], [40]: BUNCH DEEDS, and what copying alone comes to."""

import unittest

from bunches import all_deeds, behind, bunches, glow, steps
from handsmade.bunchdeeds import bunch_deeds, bunch_done, bunch_run, copied_out
from handsmade.errors import NoRow
from samples import BIG


def sizes():
    """many, bright and BUNCHES of them."""
    for many in (2, 3, 4):
        for bright in (1, 2, 3):
            yield many, bright, bunches(bright, 5 if bright < 3 else 4)


class Deeds(unittest.TestCase):
    def test_some(self):
        self.assertEqual(bunch_deeds((), many=2, bright=1), ())
        self.assertEqual(bunch_deeds((0,), many=2, bright=1), ())
        self.assertEqual(bunch_deeds((1,), many=2, bright=1), (("copy", 1), ("make", 1)))
        self.assertEqual(bunch_deeds(bright=1, lights=(0, 0), many=2), (("agree", (0, 0)),))
        self.assertEqual(bunch_deeds((2, 1, 1, 0), many=3, bright=2), (
            ("agree", (1, 1, 0)), ("agree", (2, 1, 0)), ("agree", (2, 1, 1)), ("copy", 1), ("copy", 2), ("make", 1),
            ("make", 2),
        ))
        self.assertEqual(bunch_deeds((0,) * 5, many=4, bright=3), (("agree", (0, 0, 0, 0)),))

    def test_against_going_through_all(self):
        for many, bright, some in sizes():
            for lights in some:
                told = [deed for deed, _ in steps(lights, many, bright)]
                self.assertEqual(bunch_deeds(lights, many=many, bright=bright), tuple(told))
                for deed in all_deeds(many, bright):
                    self.assertEqual(
                        bunch_done(lights, deed, many=many, bright=bright), behind(lights, deed, bright), (lights, deed),
                    )

    def test_done(self):
        for lights, deed, told in (
            ((2, 1), ("make", 2), (1, 1)), ((2, 1), ("make", 1), (2, 0)), ((2, 1), ("copy", 2), (1, 1, 1)),
            ((2, 1), ("copy", 1), (2, 0, 0)), ((3, 1, 0), ("agree", (1, 0)), (3, 3)), ((0, 0), ("agree", (0, 0)), (3,)),
            ((3, 3), ("agree", (3, 3)), (3,)),
        ):
            self.assertEqual(bunch_done(lights, deed, many=2, bright=3), told)
        self.assertEqual(bunch_done(bright=2, many=2, deed=("make", 1), lights=(1,)), (0,))

    def test_what_cannot_be(self):
        for lights, deed in (
            ((), ("make", 1)), ((), ("copy", 1)), ((), ("agree", (0, 0))), ((1, 0), ("make", 0)), ((1, 0), ("copy", 0)),
            ((1, 0), ("make", 2)), ((1, 0), ("copy", 3)), ((1, 0), ("make", BIG)), ((1, 0), ("copy", BIG)),
            ((1, 0), ("agree", (0, 0))), ((1, 0), ("agree", (1, 1))), ((1, 0), ("agree", (2, 0))),
            ((1, 0), ("agree", (BIG, BIG))), ((0,), ("agree", (0, 0))),
        ):
            self.assertIsNone(bunch_done(lights, deed, many=2, bright=2), (lights, deed))

    def test_agree_of_too_few_or_too_many(self):
        for lights in ((), (0,), (0, 0), (0, 0, 0, 0), (0, 0, 0, 0, 0)):
            self.assertIsNone(bunch_done((0,) * 5, ("agree", lights), many=3, bright=2))

    def test_many_and_bright_by_their_names_alone(self):
        for told in (bunch_deeds, lambda *places: bunch_done((1,), ("make", 1), *places[1:])):
            with self.assertRaises(TypeError):
                told((1,), 2, 1)


class Rows(unittest.TestCase):
    def test_rows(self):
        self.assertEqual(bunch_run((1,), (), many=2, bright=1), ((1,),))
        row = (("copy", 2), ("make", 1), ("agree", (1, 0)), ("copy", 2))
        self.assertEqual(
            bunch_run(bright=2, row=row, lights=(2,), many=2), ((2,), (1, 1), (1, 0), (2,), (1, 1)),
        )

    def test_refused_at_each_place(self):
        row = (("copy", 2), ("make", 1), ("agree", (1, 0)), ("copy", 2))
        for k in range(4):
            for wrong in (("make", 3), ("copy", 0), ("agree", (2, 2)), ("make", BIG)):
                for rest in (row[k:], row[k + 1:], (("make", 0),)):
                    with self.assertRaises(NoRow) as caught:
                        bunch_run((2,), row[:k] + (wrong,) + rest, many=2, bright=2)
                    self.assertEqual((caught.exception.k, caught.exception.why), (k, "leaf"))

    def test_all_short_rows(self):
        deeds = all_deeds(2, 2)
        for first in deeds:
            for second in deeds:
                there = [(2, 1, 0)]
                for deed in (first, second):
                    if there[-1] is not None:
                        there.append(behind(there[-1], deed, 2))
                if there[-1] is None:
                    with self.assertRaises(NoRow) as caught:
                        bunch_run((2, 1, 0), (first, second), many=2, bright=2)
                    self.assertEqual(caught.exception.k, len(there) - 2)
                else:
                    self.assertEqual(bunch_run((2, 1, 0), (first, second), many=2, bright=2), tuple(there))


class CopiedOut(unittest.TestCase):
    def test_copies_alone_come_out_dark(self):
        for lights in bunches(3, 5):
            row = copied_out(lights)
            self.assertIs(row.__class__, tuple)
            self.assertLessEqual({deed[0] for deed in row}, {"copy"})
            self.assertEqual(len(row), glow(lights) - len(lights))
            self.assertEqual(bunch_run(lights, row, many=2, bright=3)[-1], (0,) * glow(lights))
        self.assertEqual(copied_out(()), ())
        self.assertEqual(copied_out(lights=(0, 0)), ())

    def test_in_whatever_order(self):
        """[40]: a "copy" leaves the GLOW as it is, so all orders come out to the same."""
        for first in bunches(3, 3):
            ends, waiting = set(), {first}
            while waiting:
                lights = waiting.pop()
                copies = [there for deed, there in steps(lights, 2, 3) if deed[0] == "copy"]
                self.assertEqual({glow(there) for there in copies} | {glow(first)}, {glow(first)})
                waiting |= set(copies)
                if not copies:
                    ends.add(lights)
            self.assertEqual(ends, {(0,) * glow(first)})

    def test_what_other_deeds_do_to_the_glow(self):
        for many, bright, some in sizes():
            for lights in some:
                for deed in bunch_deeds(lights, many=many, bright=bright):
                    there = bunch_done(lights, deed, many=many, bright=bright)
                    if deed[0] == "make":
                        self.assertEqual(glow(there), glow(lights) - 2 ** (deed[1] - 1))
                    if deed[0] == "agree":
                        self.assertEqual(glow(there), glow(lights) - glow(deed[1]) + 2 ** bright)


if __name__ == "__main__":
    unittest.main()
