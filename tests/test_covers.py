"""STANDS that stand for others: the greatest, the least of one mark."""

import unittest

from handsmade.covers import Tops, bulk, greatest_for, least_for
from plain import all_stands, no_less
from samples import DRIPS, PAIR, SMALL, TINY
from walks import numbers


def shuffled(things, seed):
    chance = numbers(seed)
    return sorted(things, key=lambda thing: next(chance))


class Covers(unittest.TestCase):
    def stands(self):
        for plant in (TINY, SMALL, DRIPS, PAIR):
            stands = all_stands(plant)
            yield shuffled(stands[::len(stands) // 60 + 1], 3)
            yield shuffled(stands[:60], 4)
            yield shuffled([stand for stand in stands if stand[4:] == (1, 0)][::7][:80], 5)

    def test_bulk(self):
        for stands in self.stands():
            for one in stands:
                for other in stands:
                    if one != other and no_less(one, other):
                        self.assertGreater(bulk(one), bulk(other))

    def test_for_each_one(self):
        for stands in self.stands():
            for marks in ({stand: True for stand in stands}, {stand: stand[0] for stand in stands}):
                greatest, least = greatest_for(marks), least_for(marks)
                self.assertEqual((sorted(greatest), sorted(least)), (sorted(stands), sorted(stands)))
                for stand in stands:
                    same = [other for other in stands if marks[other] == marks[stand]]
                    over, under = greatest[stand], least[stand]
                    self.assertTrue(over in same and no_less(over, stand))
                    self.assertTrue(under in same and no_less(stand, under))
                    # None is greater than the greatest, less than the least.
                    self.assertEqual([other for other in same if no_less(other, over)], [over])
                    self.assertEqual([other for other in same if no_less(under, other)], [under])

    def test_no_order_matters(self):
        for stands in self.stands():
            for told in (greatest_for, least_for):
                ends = [set(told({stand: True for stand in row}).values()) for row in (stands, stands[::-1],
                                                                                       sorted(stands))]
                self.assertEqual(ends[0], ends[1])
                self.assertEqual(ends[0], ends[2])

    def test_tops(self):
        for stands in self.stands():
            tops = Tops(stands[::5])
            for stand in stands + stands[::-1]:
                self.assertIs(tops.has_over(stand), any(no_less(other, stand) for other in stands[::5]))


if __name__ == "__main__":
    unittest.main()
