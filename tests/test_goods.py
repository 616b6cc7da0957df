"""Point [11]: a KIND by its name, the GOODS of a WORKS."""

import unittest

from handsmade.goods import goods_of, kind_called
from samples import kind, works


class KindsByName(unittest.TestCase):
    def test_name_that_is_there(self):
        kinds = (kind("cup", takes=2), kind("ink", "cup"), kind("pen", gives=3))
        plant = works(*kinds)
        for one in kinds:
            self.assertEqual(kind_called(plant, one[0]), one)
            self.assertEqual(kind_called(name=one[0], works=plant), one)

    def test_name_that_is_not_there(self):
        plant = works(kind("cup"), kind("pen", "cup"))
        for name in ("a", "cu", "cups", "ink", "z", "tool"):
            self.assertIsNone(kind_called(plant, name))

    def test_of_a_works_that_is_not_whole(self):
        plant = works(kind("cup", "ink"), asks=("oil",))
        self.assertEqual(kind_called(plant, "cup"), kind("cup", "ink"))
        self.assertIsNone(kind_called(plant, "ink"))
        self.assertIsNone(kind_called(plant, "oil"))


class Goods(unittest.TestCase):
    def test_one_kind(self):
        self.assertEqual(goods_of(works(kind("a"))), (("leaf", "a"), ("tool", "a")))

    def test_two_kinds(self):
        self.assertEqual(
            goods_of(works(kind("pen", "cup"), kind("cup"))),
            (("leaf", "cup"), ("leaf", "pen"), ("tool", "cup"), ("tool", "pen")),
        )

    def test_three_kinds(self):
        told = goods_of(works=works(kind("b"), kind("ab"), kind("a"), asks=("a",)))
        self.assertEqual(
            told,
            (("leaf", "a"), ("leaf", "ab"), ("leaf", "b"), ("tool", "a"), ("tool", "ab"), ("tool", "b")),
        )
        self.assertIs(told.__class__, tuple)


if __name__ == "__main__":
    unittest.main()
