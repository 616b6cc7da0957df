"""Point [13]: what hangs on what, and the rings."""

import unittest

from handsmade.hangs import hangs_on, hangs_straight, rings_of
from samples import all_works, good_list, hangs, kind, straight, works


def leaf(name):
    return ("leaf", name)


def tool(name):
    return ("tool", name)


class Hanging(unittest.TestCase):
    def test_straight_of_a_tool(self):
        plant = works(kind("cup"), kind("ink", "cup", "pen"), kind("pen", "pen"), asks=("cup",))
        self.assertEqual(hangs_straight(plant, tool("cup")), (leaf("cup"),))
        self.assertEqual(hangs_straight(plant, tool("ink")), (leaf("ink"), tool("cup"), tool("pen")))
        self.assertEqual(hangs_straight(good=tool("pen"), works=plant), (leaf("pen"), tool("pen")))

    def test_straight_of_a_leaf(self):
        self.assertEqual(hangs_straight(works(kind("a", "a")), leaf("a")), (leaf("a"),))
        plant = works(kind("cup", "pen"), kind("ink"), kind("pen"), asks=("ink", "pen"))
        for name in ("cup", "ink", "pen"):
            self.assertEqual(hangs_straight(plant, leaf(name)), (leaf(name), tool("ink"), tool("pen")))

    def test_on_all_of_a_row(self):
        plant = works(kind("a", "b"), kind("b", "c"), kind("c"))
        self.assertEqual(hangs_on(plant, tool("a")), (leaf("a"), leaf("b"), leaf("c"), tool("b"), tool("c")))
        self.assertEqual(hangs_on(plant, tool("b")), (leaf("b"), leaf("c"), tool("c")))
        self.assertEqual(hangs_on(good=tool("c"), works=plant), (leaf("c"),))
        self.assertEqual(hangs_on(plant, leaf("a")), (leaf("a"),))

    def test_on_itself(self):
        plant = works(kind("a", "a"), kind("b", "a"))
        self.assertIn(tool("a"), hangs_on(plant, tool("a")))
        self.assertNotIn(tool("b"), hangs_on(plant, tool("b")))
        self.assertEqual(hangs_on(plant, tool("b")), (leaf("a"), leaf("b"), tool("a")))

    def test_by_copying(self):
        plant = works(kind("a"), kind("b"), asks=("a",))
        self.assertEqual(hangs_on(plant, leaf("b")), (leaf("a"), leaf("b"), tool("a")))
        self.assertEqual(hangs_on(plant, tool("a")), (leaf("a"), tool("a")))

    def test_rings_without_asks(self):
        self.assertEqual(rings_of(works(kind("a"))), ((leaf("a"),),))
        self.assertEqual(rings_of(works=works(kind("a"), kind("b", "a"))), ((leaf("a"),), (leaf("b"),)))

    def test_rings_of_one_tool(self):
        self.assertEqual(
            rings_of(works(kind("a", "a"), kind("b", "a"))),
            ((leaf("a"),), (leaf("b"),), (tool("a"),)),
        )

    def test_rings_of_several_tools(self):
        plant = works(kind("a", "b"), kind("b", "c"), kind("c", "a"))
        self.assertEqual(
            rings_of(plant),
            ((leaf("a"),), (leaf("b"),), (leaf("c"),), (tool("a"), tool("b"), tool("c"))),
        )
        two = works(kind("a", "b"), kind("b", "a"), kind("c", "c", "a"))
        self.assertEqual(
            rings_of(two),
            ((leaf("a"),), (leaf("b"),), (leaf("c"),), (tool("a"), tool("b")), (tool("c"),)),
        )

    def test_rings_by_copying(self):
        plant = works(kind("a"), kind("b", "a"), asks=("a",))
        self.assertEqual(rings_of(plant), ((leaf("a"), tool("a")), (leaf("b"),)))
        both = works(kind("a"), kind("b"), asks=("a", "b"))
        self.assertEqual(rings_of(both), ((leaf("a"), leaf("b"), tool("a"), tool("b")),))

    def test_all_works_of_two_kinds_and_some_of_three(self):
        plants = all_works(("a",)) + all_works(("a", "b")) + all_works(("a", "b", "c"), askings=[(), ("b",)])
        for plant in plants:
            on = hangs(plant)
            for good in good_list(plant):
                self.assertEqual(hangs_straight(plant, good), tuple(sorted(straight(plant, good))))
                self.assertEqual(hangs_on(plant, good), tuple(sorted(on[good])))
            rings = {
                tuple(sorted(other for other in on[good] if good in on[other])) for good in on if good in on[good]
            }
            self.assertEqual(rings_of(plant), tuple(sorted(rings)))

    def test_leaves_are_in_just_one_ring(self):
        for plant in all_works(("a", "b")):
            found = [good for ring in rings_of(plant) for good in ring]
            self.assertEqual(len(found), len(set(found)))
            for one in plant[0]:
                self.assertIn(leaf(one[0]), found)

    def test_told_are_tuples(self):
        plant = works(kind("a", "a"))
        self.assertIs(hangs_straight(plant, tool("a")).__class__, tuple)
        self.assertIs(hangs_on(plant, tool("a")).__class__, tuple)
        self.assertEqual([rings_of(plant).__class__] + [ring.__class__ for ring in rings_of(plant)], [tuple] * 3)


if __name__ == "__main__":
    unittest.main()
