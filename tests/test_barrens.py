"""Points [9], [16]: the greatest BARREN SET told, any thing looked at as one."""

import unittest

from handsmade.barrenchecker import lets_barren_goods
from handsmade.barrens import barren_goods
from handsmade.births import birth_row
from handsmade.errors import NoPaper
from samples import ODD, all_works, good_list, is_barren, kind, reached, straight, subsets, works

A = ("leaf", "a")
B = ("leaf", "b")
MAKE_A = ("tool", "a")
MAKE_B = ("tool", "b")


class Barrens(unittest.TestCase):
    def test_told(self):
        plant = works(kind("a"), kind("b", "b"))
        self.assertEqual(barren_goods(plant, ()), (A, B, MAKE_A, MAKE_B))
        self.assertEqual(barren_goods(plant, (A, B)), (MAKE_B,))
        self.assertEqual(barren_goods(stock=(A, B, MAKE_B), works=plant), ())
        self.assertEqual(barren_goods(plant, (MAKE_A,)), (A, B, MAKE_B))

    def test_greatest_of_all_barren_sets(self):
        for plant in all_works(("a", "b"), askings=[(), ("a",)]):
            goods = good_list(plant)
            for stock in subsets(goods):
                told = barren_goods(plant, stock)
                self.assertIs(told.__class__, tuple)
                every = [part for part in subsets(goods) if is_barren(plant, stock, part)]
                self.assertEqual(told, tuple(sorted({good for part in every for good in part})))
                self.assertEqual(set(told), set(goods) - set(stock) - reached(plant, stock))

    def test_of_both_papers_just_one_has_what_is_not_of_the_stock(self):
        for plant in all_works(("a", "b")):
            for stock in subsets(good_list(plant)):
                row, barren = birth_row(plant, stock), barren_goods(plant, stock)
                self.assertEqual(lets_barren_goods(plant, stock, barren), len(barren))
                for good in good_list(plant):
                    if good not in stock:
                        self.assertEqual((good in row) + (good in barren), 1)


class Looking(unittest.TestCase):
    def setUp(self):
        self.plant = works(kind("a", "b"), kind("b", "a"))
        self.stock = (A, B)

    def refuses(self, thing, word, at, plant=None, stock=None):
        with self.assertRaises(NoPaper) as told:
            lets_barren_goods(plant or self.plant, self.stock if stock is None else stock, thing)
        self.assertEqual((told.exception.word, told.exception.at), (word, at), thing)

    def test_let_by(self):
        for thing in ((), (MAKE_A, MAKE_B)):
            told = lets_barren_goods(self.plant, self.stock, thing)
            self.assertEqual(told, len(thing))
            self.assertIs(told.__class__, int)
        self.assertEqual(lets_barren_goods(thing=(A,), stock=(), works=self.plant), 1)
        self.assertEqual(lets_barren_goods(self.plant, (), (A, B, MAKE_A, MAKE_B)), 4)

    def test_no_rising_tuple_of_goods(self):
        for thing in (
            [], [MAKE_A, MAKE_B], (MAKE_B, MAKE_A), (MAKE_A, MAKE_A), (MAKE_A, A), (A, B, A), (B, A),
            True, False, None, 0, 2, "", A, (True,), (("tool", "c"),), (MAKE_A, ("tool", "c")), (MAKE_A, None),
            (MAKE_A, 1), (("leaf", "a", 1),), (["tool", "a"],), ((),), ((MAKE_A, MAKE_B),), (("tool", True),),
        ):
            self.refuses(thing, "shape", -1)
        for odd in ODD:
            if odd != ():
                self.refuses(odd, "shape", -1)

    def test_there(self):
        self.refuses((A,), "there", 0)
        self.refuses((A, MAKE_A, MAKE_B), "there", 0, stock=(A,))
        self.refuses((A, B, MAKE_A), "there", 1, stock=(B,))
        self.refuses((MAKE_A, MAKE_B), "there", 1, stock=(MAKE_B,))

    def test_free(self):
        self.refuses((MAKE_A,), "free", 0)
        self.refuses((B, MAKE_A), "free", 1, stock=())
        self.refuses((MAKE_A, MAKE_B), "free", 0, plant=works(kind("a"), kind("b", "a")))
        self.refuses((A, MAKE_A, MAKE_B), "free", 2, plant=works(kind("a"), kind("b")), stock=())

    def test_a_leaf_that_is_not_of_the_stock_is_never_free(self):
        self.assertEqual(lets_barren_goods(self.plant, (), (A,)), 1)
        self.assertEqual(lets_barren_goods(works(kind("a")), (), (A, MAKE_A)), 2)

    def test_the_first_reason_goes(self):
        self.refuses((B, MAKE_A, MAKE_B), "there", 2, stock=(MAKE_B,), plant=works(kind("a", "a"), kind("b", "a")))
        self.refuses((MAKE_A, MAKE_B), "free", 0, stock=(A, MAKE_B), plant=works(kind("a"), kind("b")))
        self.refuses((MAKE_B, MAKE_A), "shape", -1, stock=(MAKE_A, MAKE_B))
        self.refuses((A, MAKE_A), "there", 0, stock=(A,))

    def test_there_goes_ahead_of_free_at_one_place(self):
        self.refuses((MAKE_A,), "there", 0, plant=works(kind("a")), stock=(A, MAKE_A))

    def test_all_sets_of_all_stocks(self):
        for plant in all_works(("a", "b"), askings=[(), ("b",)]):
            goods = good_list(plant)
            for stock in subsets(goods):
                for part in subsets(goods):
                    want = self.first_reason(plant, stock, part)
                    if want is None:
                        self.assertEqual(lets_barren_goods(plant, stock, part), len(part))
                        self.assertFalse(set(part) & reached(plant, stock))
                    else:
                        self.refuses(part, *want, plant=plant, stock=stock)

    def first_reason(self, plant, stock, part):
        for k, good in enumerate(part):
            if good in stock:
                return "there", k
            if not straight(plant, good) & set(part):
                return "free", k
        return None


if __name__ == "__main__":
    unittest.main()
