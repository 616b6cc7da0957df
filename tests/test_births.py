"""Points [14], [15], [17]: EVER of a STOCK, a BIRTH ROW told, all STARTS."""

import unittest

from handsmade.birthchecker import lets_birth
from handsmade.births import birth_row, ever_come, starts_of
from samples import all_works, ever, good_list, kind, reached, starts, straight, subsets, works


def leaves(*names):
    return tuple(("leaf", name) for name in names)


def tools(*names):
    return tuple(("tool", name) for name in names)


class Ever(unittest.TestCase):
    def test_of_the_void_stock(self):
        self.assertEqual(ever_come(works(kind("a")), ()), ())
        self.assertEqual(ever_come(works(kind("a", "b"), kind("b"), asks=("a",)), ()), ())

    def test_of_all_leaves(self):
        plant = works(kind("a"), kind("b", "a"), kind("c", "b"))
        self.assertEqual(ever_come(plant, leaves("a", "b", "c")), leaves("a", "b", "c") + tools("a", "b", "c"))
        ring = works(kind("a"), kind("b", "c"), kind("c", "b"))
        self.assertEqual(ever_come(ring, leaves("a", "b", "c")), leaves("a", "b", "c") + tools("a"))

    def test_of_some_tools_and_leaves(self):
        plant = works(kind("a"), kind("b", "c"), kind("c", "b"))
        self.assertEqual(
            ever_come(stock=leaves("b", "c") + tools("b"), works=plant), leaves("b", "c") + tools("b", "c"))
        self.assertEqual(ever_come(plant, leaves("c") + tools("b")), leaves("c") + tools("c"))
        self.assertEqual(ever_come(plant, leaves("a") + tools("b", "c")), leaves("a") + tools("a"))

    def test_what_cannot_be_made_itself_is_not_in_it(self):
        plant = works(kind("a"), kind("b", "a"))
        self.assertEqual(ever_come(plant, tools("a")), ())
        self.assertEqual(ever_come(plant, leaves("b") + tools("a")), leaves("b") + tools("b"))

    def test_copying_without_asks(self):
        self.assertEqual(ever_come(works(kind("a", "a")), leaves("a")), leaves("a"))

    def test_copying_with_asks(self):
        plant = works(kind("a"), kind("b", "b"), asks=("b",))
        self.assertEqual(ever_come(plant, leaves("a", "b")), tools("a"))
        self.assertEqual(ever_come(plant, leaves("a", "b") + tools("b")), leaves("a", "b") + tools("a", "b"))
        made = works(kind("a"), kind("b"), asks=("a",))
        self.assertEqual(ever_come(made, leaves("a")), leaves("a") + tools("a"))
        self.assertEqual(ever_come(made, leaves("b")), tools("b"))

    def test_all_stocks_of_all_works_of_two_kinds(self):
        for plant in all_works(("a",)) + all_works(("a", "b")):
            for stock in subsets(good_list(plant)):
                told = ever_come(plant, stock)
                self.assertEqual(told, tuple(sorted(ever(plant, stock))))
                self.assertEqual(set(told), reached(plant, stock))
                self.assertIs(told.__class__, tuple)

    def test_a_stock_with_more_has_no_less(self):
        plant = works(kind("a", "b"), kind("b", "b"), kind("c", "a"), asks=("b",))
        goods = good_list(plant)
        for stock in subsets(goods):
            for good in goods:
                more = tuple(sorted(set(stock) | {good}))
                self.assertLessEqual(set(ever_come(plant, stock)), set(ever_come(plant, more)))


class BirthRows(unittest.TestCase):
    def test_row_of_a_chain(self):
        plant = works(kind("a", "b"), kind("b", "c"), kind("c"))
        row = birth_row(plant, leaves("a", "b", "c"))
        self.assertLess(row.index(("tool", "c")), row.index(("tool", "b")))
        self.assertLess(row.index(("tool", "b")), row.index(("tool", "a")))

    def test_void_row(self):
        self.assertEqual(birth_row(works(kind("a")), ()), ())
        self.assertEqual(birth_row(stock=tools("a"), works=works(kind("a", "a"))), ())

    def test_each_stands_behind_what_it_hangs_on(self):
        for plant in all_works(("a", "b")):
            for stock in subsets(good_list(plant)):
                row = birth_row(plant, stock)
                self.assertIs(row.__class__, tuple)
                self.assertEqual(len(row), len(set(row)))
                self.assertEqual(set(row), reached(plant, stock))
                for k, good in enumerate(row):
                    self.assertLessEqual(straight(plant, good), set(stock) | set(row[:k]))
                self.assertEqual(lets_birth(plant, stock, row), len(row))
                self.assertEqual(tuple(sorted(row)), ever_come(plant, stock))


class Starts(unittest.TestCase):
    def test_without_rings_of_tools(self):
        self.assertEqual(starts_of(works(kind("a"))), (leaves("a"),))
        plant = works(kind("a"), kind("b", "a"), kind("c", "a", "b"))
        self.assertEqual(starts_of(works=plant), (leaves("a", "b", "c"),))

    def test_ring_of_one(self):
        plant = works(kind("a", "a"), kind("b", "a"))
        self.assertEqual(starts_of(plant), (leaves("a", "b") + tools("a"),))

    def test_ring_of_several(self):
        plant = works(kind("a", "b"), kind("b", "c"), kind("c", "a"))
        every = leaves("a", "b", "c")
        self.assertEqual(starts_of(plant), (every + tools("a"), every + tools("b"), every + tools("c")))

    def test_two_rings(self):
        apart = works(kind("a", "a"), kind("b", "c"), kind("c", "b"))
        every = leaves("a", "b", "c")
        self.assertEqual(starts_of(apart), (every + tools("a", "b"), every + tools("a", "c")))
        joined = works(kind("a", "b"), kind("b", "a", "c"), kind("c", "b"))
        self.assertEqual(starts_of(joined), (every + tools("a", "c"), every + tools("b")))

    def test_copying_with_asks(self):
        self.assertEqual(starts_of(works(kind("a"), asks=("a",))), (leaves("a"),))
        plant = works(kind("a", "b"), kind("b", "a"), asks=("b",))
        self.assertEqual(starts_of(plant), (leaves("a", "b") + tools("a"), leaves("a", "b") + tools("b")))

    def test_all_works_of_two_kinds_and_some_of_three(self):
        plants = all_works(("a",)) + all_works(("a", "b")) + all_works(("a", "b", "c"), askings=[("b",)])[::3]
        for plant in plants:
            told = starts_of(plant)
            self.assertEqual(told, tuple(starts(plant)))
            self.assertNotEqual(told, ())
            self.assertEqual(len(told), len(set(told)))
            self.assertEqual({told.__class__} | {start.__class__ for start in told}, {tuple})

    def test_none_of_a_start_stands_for_nothing(self):
        for plant in all_works(("a", "b", "c"), askings=[()])[::7]:
            goods = set(good_list(plant))
            for start in starts_of(plant):
                self.assertEqual(set(ever_come(plant, start)), goods)
                for k in range(len(start)):
                    self.assertNotEqual(set(ever_come(plant, start[:k] + start[k + 1:])), goods)


if __name__ == "__main__":
    unittest.main()
