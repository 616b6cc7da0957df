"""Points [9], [15]: any thing looked at as a BIRTH ROW."""

import unittest

from handsmade.birthchecker import lets_birth
from handsmade.errors import NoPaper
from samples import ODD, all_works, good_list, kind, reached, straight, subsets, works

A = ("leaf", "a")
B = ("leaf", "b")
MAKE_A = ("tool", "a")
MAKE_B = ("tool", "b")


class Births(unittest.TestCase):
    def setUp(self):
        self.plant = works(kind("a"), kind("b", "a"))
        self.stock = (A, B)

    def refuses(self, thing, word, at, plant=None, stock=None):
        with self.assertRaises(NoPaper) as told:
            lets_birth(plant or self.plant, self.stock if stock is None else stock, thing)
        self.assertEqual((told.exception.word, told.exception.at), (word, at), thing)

    def test_rows_let_by(self):
        for row in ((), (A,), (MAKE_A,), (MAKE_A, MAKE_B), (MAKE_A, A, MAKE_B, B), (B, A)):
            told = lets_birth(self.plant, self.stock, row)
            self.assertEqual(told, len(row))
            self.assertIs(told.__class__, int)
        self.assertEqual(lets_birth(thing=(), stock=(), works=self.plant), 0)

    def test_no_tuple_of_goods(self):
        for thing in (
            [], [A], [MAKE_A, MAKE_B], True, False, None, 0, 1, "", "a", A, ("tool", "a"), (True,), (None,), (1,),
            (["leaf", "a"],), (("leaf", "c"),), (("tool", "c"),), (("leaf",),), (("leaf", "a", 1),), (("leaf", True),),
            ((True, "a"),), (("Tool", "a"),), (("", "a"),), (("leaf", ""),), ((A,),), ((),), (A, "b"), (A, None),
            (A, ("leaf", "c")), (MAKE_A, MAKE_B, ("tool", "x")),
        ):
            self.refuses(thing, "shape", -1)
        for odd in ODD:
            if odd != ():
                self.refuses(odd, "shape", -1)

    def test_twice(self):
        self.refuses((A, A), "twice", 1)
        self.refuses((MAKE_A, A, MAKE_B, MAKE_A), "twice", 3)
        self.refuses((A, B, B, A), "twice", 2)

    def test_asks(self):
        self.refuses((MAKE_B,), "asks", 0)
        self.refuses((A, MAKE_B, MAKE_A), "asks", 1)
        self.refuses((MAKE_A, MAKE_B), "asks", 1, stock=(A,))
        self.refuses((A,), "asks", 0, stock=())
        self.refuses((A,), "asks", 0, stock=(MAKE_A,))
        self.refuses((B, A), "asks", 0, plant=works(kind("a"), kind("b"), asks=("a",)))
        self.assertEqual(lets_birth(self.plant, (B, MAKE_A), (MAKE_B,)), 1)

    def test_itself_is_not_ahead_of_itself(self):
        self.refuses((MAKE_A,), "asks", 0, plant=works(kind("a", "a")), stock=(A,))
        self.assertEqual(lets_birth(works(kind("a", "a")), (A, MAKE_A), (MAKE_A,)), 1)

    def test_the_first_reason_goes(self):
        self.refuses((MAKE_B, MAKE_B), "asks", 0)
        self.refuses((A, A, MAKE_B), "twice", 1)
        self.refuses((A, MAKE_B, A), "asks", 1)
        self.refuses((A, A, MAKE_B, None), "shape", -1)
        self.refuses([MAKE_B, MAKE_B], "shape", -1)

    def test_all_rows_of_up_to_three_goods(self):
        plant = works(kind("a", "b"), kind("b", "b"), asks=("b",))
        goods = good_list(plant)
        rows = [()] + [(one,) for one in goods] + [(one, other) for one in goods for other in goods]
        rows += [(one, other, third) for one, other in rows[-16:] for third in goods]
        for stock in subsets(goods):
            for row in rows:
                want = self.first_reason(plant, stock, row)
                if want is None:
                    self.assertEqual(lets_birth(plant, stock, row), len(row))
                else:
                    self.refuses(row, *want, plant=plant, stock=stock)

    def first_reason(self, plant, stock, row):
        for k, good in enumerate(row):
            if good in row[:k]:
                return "twice", k
            if not straight(plant, good) <= set(stock) | set(row[:k]):
                return "asks", k
        return None

    def test_what_is_let_by_is_in_ever_whoever_wrote_it(self):
        for plant in all_works(("a", "b"), askings=[(), ("b",)]):
            for stock in subsets(good_list(plant)):
                for row in subsets(good_list(plant)):
                    if self.first_reason(plant, stock, row) is None:
                        self.assertEqual(lets_birth(plant, stock, row), len(row))
                        self.assertLessEqual(set(row), reached(plant, stock))
                    else:
                        with self.assertRaises(NoPaper):
                            lets_birth(plant, stock, row)


if __name__ == "__main__":
    unittest.main()
