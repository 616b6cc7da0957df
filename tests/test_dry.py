"""Points [62], [63], [64]: WEIGHTS by which a WORKS dries up."""

import unittest
from itertools import product

from handsmade.bounds import HIGHEST
from handsmade.dry import dry_paper
from handsmade.drychecker import lets_dry
from handsmade.errors import NoPaper
from handsmade.kept import kept_within
from handsmade.stands import full_stand
from samples import ASKED, BIG, DRIPS, FALLING, MILL, MIXED, NEEDY, ODD, PAIR, PLANT, SLOW, SMALL, TINY, TWINS, changed

# Making takes a leaf's light and brings one use; three have to agree, who are as bright as 1 then.
DRY = ((("a", (), 0, 1, 1, 0),), ((), 0, 1), (3, 0, 1), (1, 3, 1, 0), (0, 1), (1, 1), 1)
# Of two KINDS, with stuff: cups ask two pens and two grains, and give three and one back.
DRY_TWO = (
    (("cup", (("pen", 2),), 2, 1, 3, 1), ("pen", (), 1, 2, 1, 0)), ((("cup", 1),), 1, 1), (3, 2, 1), (3, 4, 1, 6),
    (1, 3), (1, 1), 2,
)


def plain_dry(plant, weights):
    """M of a DRY PAPER, or (word, at), as [62] has it."""
    kinds, _, (many, agree_takes, _), (_, _, bright, _), (flow, drip), (_, rest), _ = plant
    stuff, uses, glow = weights
    use = {one[0]: worth for one, worth in zip(kinds, uses)}
    leaf = {one[0]: worth for one, worth in zip(kinds, glow)}
    for k, one in enumerate(kinds):
        if leaf[one[0]] < 1:
            return "glow", k
    for k, (name, asks, takes, _, gives, back) in enumerate(kinds):
        ahead = takes * stuff + leaf[name]
        for word, asked in asks:
            ahead += asked * use[word]
        if ahead < gives * use[name] + back * stuff:
            return "make", k
    for k, (name, *_) in enumerate(kinds):
        if agree_takes * stuff + many * leaf[name] < 2 ** bright * leaf[name]:
            return "agree", k
    least = min(number for number in [stuff, *uses, *glow] if number)
    if not drip * least > flow * stuff * rest:
        return "strikes", -1
    return least


def weights_to(plant, highest):
    many = len(plant[0])
    numbers = range(highest + 1)
    for stuff in numbers:
        for uses in product(numbers, repeat=many):
            for glow in product(numbers, repeat=many):
                yield stuff, uses, glow


class Checked(unittest.TestCase):
    def refused(self, thing, word, at, plant=DRY):
        with self.assertRaises(NoPaper) as caught:
            lets_dry(plant, thing)
        self.assertEqual((caught.exception.word, caught.exception.at), (word, at), thing)

    def test_let_by(self):
        self.assertEqual(lets_dry(DRY, (0, (1,), (1,))), 1)
        self.assertEqual(lets_dry(works=DRY, thing=(0, (0,), (5,))), 5)
        # M is the least that isn't 0.
        for weights, least in (((7, (0,), (5,)), 5), ((0, (2,), (3,)), 2), ((4, (9,), (9,)), 4), ((9, (0,), (10,)), 9)):
            self.assertEqual(lets_dry(DRY, weights), least)
        self.assertEqual(lets_dry(DRY_TWO, (1, (1, 1), (2, 4))), 1)
        self.assertEqual(lets_dry(DRY, (10 ** 6, (10 ** 6,), (10 ** 6,))), 10 ** 6)

    def test_shape(self):
        for thing in ODD + [
            (0, (1,), (1,), 0), (0, (1,)), [0, (1,), (1,)], (0, [1], (1,)), (0, (1,), [1]), (True, (1,), (1,)),
            (False, (1,), (1,)), (0, (True,), (1,)), (0, (1,), (True,)), (-1, (1,), (1,)), (0, (-1,), (1,)),
            (0, (1,), (-1,)),
            (None, (1,), (1,)), (0, (), ()), (0, (1, 1), (1,)), (0, (1,), (1, 1)), (0, (1,), ()), (0, 1, 1),
            (0, (None,), (1,)),
            (0, (1,), ("1",)), ((0,), (1,), (1,)), (0, ((1,),), (1,)), (-BIG, (1,), (1,)), (0, None, (1,)),
        ]:
            self.refused(thing, "shape", -1)
        for thing in ((0, (1,), (1,)), (0, (1, 1), (1,)), (0, (1, 1), (1, 1, 1)), (0, (1, True), (1, 1))):
            self.refused(thing, "shape", -1, plant=DRY_TWO)

    def test_glow(self):
        self.refused((0, (0,), (0,)), "glow", 0)
        self.refused((0, (0, 0), (0, 0)), "glow", 0, plant=DRY_TWO)
        self.refused((0, (0, 0), (1, 0)), "glow", 1, plant=DRY_TWO)
        # Ahead of a make.
        self.refused((0, (9, 9), (1, 0)), "glow", 1, plant=DRY_TWO)

    def test_make(self):
        self.refused((0, (2,), (1,)), "make", 0)
        self.assertEqual(lets_dry(DRY, (0, (2,), (2,))), 2)
        # Cups: two pens, two grains and a dark leaf weigh no less than three cups and one grain.
        self.assertEqual(lets_dry(DRY_TWO, (1, (2, 2), (1, 1))), 1)
        self.refused((1, (3, 2), (1, 1)), "make", 0, plant=DRY_TWO)
        self.refused((1, (2, 1), (1, 1)), "make", 0, plant=DRY_TWO)
        self.refused((1, (2, 3), (1, 1)), "make", 1, plant=DRY_TWO)
        self.refused((1, (9, 9), (1, 1)), "make", 0, plant=DRY_TWO)
        # Ahead of an agree, be it of a KIND ahead.
        self.refused((0, (0, 2), (1, 1)), "make", 1, plant=changed(DRY_TWO, 2, (2, 0, 1)))
        self.refused((0, (0, 2), (1, 1)), "make", 1, plant=changed(changed(DRY_TWO, 2, (2, 0, 1)), 3, (3, 4, 2, 6)))

    def test_back_weighs(self):
        plant = changed(DRY, 0, (("a", (), 3, 1, 1, 3),))
        self.assertEqual(lets_dry(plant, (1, (1,), (1,))), 1)
        self.refused((1, (2,), (1,)), "make", 0, plant=plant)
        plant = changed(DRY, 0, (("a", (), 3, 1, 1, 2),))
        self.assertEqual(lets_dry(plant, (1, (2,), (1,))), 1)

    def test_agree(self):
        plant = changed(DRY, 3, (1, 3, 2, 0))
        self.refused((0, (1,), (1,)), "agree", 0, plant=plant)
        # AGREEING's takes weigh, too.
        plant = changed(plant, 2, (3, 2, 1))
        self.refused((0, (1,), (1,)), "agree", 0, plant=plant)
        self.assertEqual(lets_dry(plant, (1, (1,), (2,))), 1)
        self.refused((1, (1,), (3,)), "agree", 0, plant=plant)
        two = changed(DRY_TWO, 3, (3, 4, 2, 6))
        self.refused((1, (0, 0), (2, 3)), "agree", 1, plant=two)
        self.refused((1, (0, 0), (3, 3)), "agree", 0, plant=two)
        # Ahead of the strikes.
        self.refused((1, (0, 0), (2, 3)), "agree", 1, plant=changed(two, 4, (9, 1)))

    def test_strikes(self):
        for flow, drip, rest, stuff, let in (
            (1, 2, 1, 1, True), (1, 1, 1, 1, False), (2, 2, 1, 1, False), (2, 5, 2, 1, True), (2, 4, 2, 1, False),
            (9, 1, 9, 0, True), (0, 1, 9, 5, True), (1, 3, 1, 2, True), (1, 3, 1, 3, False), (1, 2, 2, 1, False),
        ):
            plant = changed(changed(DRY, 4, (flow, drip)), 5, (1, rest))
            if let:
                self.assertEqual(lets_dry(plant, (stuff, (0,), (1,))), 1)
            else:
                self.refused((stuff, (0,), (1,)), "strikes", -1, plant=plant)
        # It is the least weight that has to be more than what springs from strike to strike.
        plant = changed(changed(DRY, 4, (1, 4)), 5, (1, 2))
        self.assertEqual(lets_dry(plant, (2, (2,), (2,))), 2)
        self.refused((2, (1,), (2,)), "strikes", -1, plant=plant)
        self.refused((2, (1,), (1,)), "strikes", -1, plant=plant)
        self.assertEqual(lets_dry(plant, (2, (0,), (2,))), 2)

    def test_against_the_plainest_way(self):
        seen = set()
        for plant in (DRY, DRY_TWO, TINY, SMALL, ASKED, DRIPS, SLOW, NEEDY, FALLING, PAIR, TWINS, PLANT):
            for weights in weights_to(plant, 4 if len(plant[0]) == 1 else 2):
                told = plain_dry(plant, weights)
                seen.add(told if told.__class__ is int else told[0])
                if told.__class__ is int:
                    self.assertEqual(lets_dry(plant, weights), told)
                else:
                    self.refused(weights, *told, plant=plant)
        self.assertGreaterEqual(seen, {1, 2, "glow", "make", "agree", "strikes"})


class Found(unittest.TestCase):
    def test_against_going_through_all(self):
        cases = [
            changed(changed(DRY, 0, (("a", asks, takes, 1, gives, back),)), 4, spring)
            for asks in ((), (("a", 1),), (("a", 2),)) for takes, back in ((0, 0), (2, 1)) for gives in (1, 2, 4)
            for spring in ((0, 1), (1, 1), (1, 4))
        ] + [changed(plant, 2, (many, takes, 1)) for plant in (DRY, DRY_TWO) for many in (2, 3) for takes in (0, 1, 2)]
        cases += [DRY, DRY_TWO, TINY, SMALL, FALLING, PAIR, PLANT, changed(DRY_TWO, 4, (2, 2)),
                  changed(DRY, 3, (1, 3, 2, 0))]
        found = {True: 0, False: 0}
        for plant in cases:
            for highest in range(7 if len(plant[0]) == 1 else 3):
                fits = [weights for weights in weights_to(plant, highest) if plain_dry(plant, weights).__class__ is int]
                told = dry_paper(plant, highest=highest)
                found[told is not None] += 1
                if fits == []:
                    self.assertIsNone(told, (plant, highest))
                else:
                    self.assertIn(told, fits)
                    self.assertEqual(lets_dry(plant, told), plain_dry(plant, told))
        self.assertGreater(min(found.values()), 20)

    def test_highest(self):
        # The pens weigh twice what a cup does, so there is none of NUMBERS up to 1.
        plant = changed(DRY, 2, (2, 2, 1))
        plant = changed(plant, 3, (1, 3, 2, 0))
        self.assertIsNone(dry_paper(plant, highest=0))
        self.assertEqual(dry_paper(works=plant, highest=1)[0], 1)
        for highest in range(1, 7):
            stuff, uses, glow = dry_paper(plant, highest=highest)
            self.assertLessEqual(max((stuff,) + uses + glow), highest)
        with self.assertRaises(TypeError):
            dry_paper(DRY, 3)

    def test_highest_is_left_out(self):
        # Four dark leaves' glow is brought, where two had to agree: a grain has to weigh as much as two.
        plant = changed(changed(DRY, 2, (2, 1, 1)), 3, (1, 3, 3, 0))
        for spare, takes in ((True, 2), (False, 1)):
            plant = changed(plant, 2, (2, takes, 1))
            self.assertEqual(dry_paper(plant) is not None, spare)
            self.assertEqual(dry_paper(plant, highest=HIGHEST) is not None, spare)
        self.assertIsNotNone(dry_paper(plant, highest=6))

    def test_three_kinds(self):
        self.assertIsNone(dry_paper(MILL))
        self.assertEqual(lets_dry(MIXED, dry_paper(MIXED)), 1)
        plant = changed(changed(MILL, 2, (8, 0, 3)), 4, (0, 1))
        self.assertIsNotNone(lets_dry(plant, dry_paper(plant)))

    def test_nothing_is_kept(self):
        """[64], (M4): where weights are, no STAND is KEPT; where some are kept there are no weights."""
        for plant in (SMALL, ASKED, DRIPS, SLOW, NEEDY, TWINS):
            self.assertIsNone(dry_paper(plant))
        dried = 0
        for asks, takes, back, gives, agreeing, spring in product(
            ((), (("a", 1),)), (0, 2), (0, 1), (1, 2), ((2, 0, 1), (3, 1, 1), (2, 1, 2)), ((0, 1), (1, 2)),
        ):
            if back > takes:
                continue
            for bright in (1, 2):
                plant = (((("a", asks, takes, 1, gives, back)),), ((), 0, 1), agreeing, (1, 3, bright, 1), spring, (1, 4), 2)
                if dry_paper(plant) is not None:
                    dried += 1
                    self.assertEqual(kept_within(plant, full_stand(plant), most=5000), ())
        self.assertGreater(dried, 15)


if __name__ == "__main__":
    unittest.main()
