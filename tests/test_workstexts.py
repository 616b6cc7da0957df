"""Point [19]: a WORKS written as lines."""

import unittest

from handsmade.workstexts import works_text
from handsmade.worksreading import works_read
from samples import BIG, all_works, changed, kind, works


class Writing(unittest.TestCase):
    def test_one_kind(self):
        plant = ((("cup", (), 3, 2, 4, 1),), ((), 5, 6), (2, 0, 1), (7, 8, 9, 10), (11, 12), (13, 14), 15)
        self.assertEqual(
            works_text(plant),
            "benches 15\nagreeing 2 0 1\nbounds 7 8 9 10\nspring 11 12\nfoe 13 14\ncopying 5 6\nkind cup 3 2 4 1",
        )

    def test_asks(self):
        plant = (
            (("cup", (("pen", 2),), 1, 1, 1, 0), ("ink", (), 2, 1, 3, 2), ("pen", (("cup", 1), ("ink", 3)), 4, 2, 1, 4)),
            ((("cup", 1), ("pen", 5)), 1, 2), (3, 1, 2), (6, 5, 3, 6), (4, 4), (2, 8), 2,
        )
        self.assertEqual(works_text(works=plant), "\n".join([
            "benches 2", "agreeing 3 1 2", "bounds 6 5 3 6", "spring 4 4", "foe 2 8",
            "copying 1 2 cup 1 pen 5", "kind cup 1 1 1 0 pen 2", "kind ink 2 1 3 2", "kind pen 4 2 1 4 cup 1 ink 3",
        ]))

    def test_a_works_that_is_not_whole(self):
        plant = works(kind("a", "b", "c"), asks=("z",))
        self.assertEqual(works_text(plant), "\n".join([
            "benches 2", "agreeing 2 0 1", "bounds 3 2 1 6", "spring 1 2", "foe 1 3", "copying 1 2 z 1",
            "kind a 1 1 1 0 b 1 c 1",
        ]))

    def test_numbers_of_none_and_of_sixty_figures(self):
        plant = works(("a", (("a", BIG),), BIG, BIG, BIG, BIG), ("b", (), 0, 1, 1, 0))
        plant = changed(plant, 4, (0, BIG))
        lines = works_text(plant).split("\n")
        self.assertEqual(lines[3], "spring 0 " + "9" * 60)
        self.assertEqual(lines[6], "kind a" + (" " + "9" * 60) * 4 + " a " + "9" * 60)
        self.assertEqual(lines[7], "kind b 0 1 1 0")

    def test_what_is_written_is_read_as_the_same(self):
        for plant in all_works(("a",)) + all_works(("cup", "pen")) + all_works(("a", "b", "c"), askings=[("b", "z")]):
            self.assertEqual(works_read(works_text(plant)), plant)

    def test_numbers_are_read_as_the_same(self):
        for number in (1, 2, 9, 10, 100, 10 ** 59, BIG - 1, BIG):
            plant = (
                (("a", (("x", number),), number, number, number, number),), ((("y", number),), number, number),
                (2, number, number), (number, max(2, number), number, number), (number, number), (number, number), number,
            )
            self.assertEqual(works_read(works_text(plant)), plant)


if __name__ == "__main__":
    unittest.main()
