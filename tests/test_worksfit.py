"""Points [3], [12]: whether any thing is a WHOLE WORKS."""

import unittest

from handsmade.errors import NoWorks
from handsmade.worksfit import is_whole, lets_works
from samples import ODD, changed, kind, works


class Whole(unittest.TestCase):
    def lets(self, thing):
        self.assertIs(lets_works(thing), True)
        self.assertIs(lets_works(thing=thing), True)
        self.assertIs(is_whole(thing), True)
        self.assertIs(is_whole(thing=thing), True)

    def refuses(self, thing, word, at):
        with self.assertRaises(NoWorks) as told:
            lets_works(thing)
        self.assertEqual((told.exception.word, told.exception.at), (word, at))
        self.assertIs(is_whole(thing), False)

    def test_whole_ones(self):
        self.lets(works(kind("a")))
        self.lets(works(kind("a", "a"), asks=("a",)))
        self.lets(works(kind("a", "b"), kind("b", "a", "b")))
        self.lets(works(kind("a", "c"), kind("b"), kind("c", "a", "b"), asks=("a", "b", "c")))

    def test_no_works(self):
        for odd in ODD:
            self.refuses(odd, "shape", -1)
        plant = works(kind("a"))
        self.refuses(list(plant), "shape", -1)
        self.refuses(plant[:-1], "shape", -1)
        self.refuses(plant + (1,), "shape", -1)
        self.refuses(changed(plant, 0, ()), "shape", -1)
        self.refuses(changed(plant, 6, True), "shape", -1)
        self.refuses(changed(plant, 3, (3, 1, 1, 6)), "shape", -1)

    def test_asks_of_a_kind(self):
        self.refuses(works(kind("a", "b")), "asks", (0, 0))
        self.refuses(works(kind("a", "a", "b")), "asks", (0, 1))
        self.refuses(works(kind("b", "a", "b", "c")), "asks", (0, 0))
        self.refuses(works(kind("a"), kind("b", "a", "b", "c")), "asks", (1, 2))
        self.refuses(works(kind("a"), kind("b", "a"), kind("c", "a", "bb", "c")), "asks", (2, 1))

    def test_the_first_of_the_asks(self):
        self.refuses(works(kind("a", "c", "d"), kind("b", "e")), "asks", (0, 0))
        self.refuses(works(kind("a", "b", "c", "d"), kind("b", "aa")), "asks", (0, 1))
        self.refuses(works(kind("a", "b"), kind("b", "a", "x", "y"), asks=("z",)), "asks", (1, 1))

    def test_asks_of_copying(self):
        self.refuses(works(kind("a"), asks=("b",)), "copying", 0)
        self.refuses(works(kind("a"), kind("b"), asks=("a", "b", "c", "d")), "copying", 2)
        self.refuses(works(kind("a"), kind("c"), asks=("a", "b", "c", "d")), "copying", 1)

    def test_the_first_reason_goes(self):
        plant = works(kind("a", "b"), asks=("c",))
        self.refuses(plant, "asks", (0, 0))
        self.refuses(changed(plant, 6, 0), "shape", -1)

    def test_place_is_a_tuple_of_numbers(self):
        with self.assertRaises(NoWorks) as told:
            lets_works(works(kind("a", "b")))
        self.assertEqual([place.__class__ for place in told.exception.at], [int, int])
        self.assertIs(told.exception.at.__class__, tuple)


if __name__ == "__main__":
    unittest.main()
