"""Point [8] over the whole program: what a KEEPER has is KEPT for ever, whatever is done and struck."""

import unittest
from functools import lru_cache

from handsmade.barrens import barren_goods
from handsmade.births import ever_come
from handsmade.bounds import MOST
from handsmade.comes import beats_to
from handsmade.cuttings import least_cuttings
from handsmade.dry import dry_paper
from handsmade.goods import goods_of
from handsmade.keeper import Keeper
from handsmade.kept import kept_within
from handsmade.keptchecker import lets_kept
from handsmade.keptpapers import kept_paper
from handsmade.known import Known
from handsmade.leaststands import least_stands
from handsmade.order import is_no_less
from handsmade.replaying import replayed
from handsmade.stands import full_stand
from handsmade.strikes import strikes_at
from handsmade.turns import turn_led, turns_of
from keeperwalks import BEAT, act, some_row
from plainkeeper import looks_of
from samples import ASKED, DRIPS, FALLING, NEEDY, PAIR, SLOW, SMALL, STUFF, TAKING, TWINS, WIDE, changed, refusal
from walks import numbers

TWINS_AT = ((1, 1), ((2, 2), (2, 2)), 0, (), 1, 0)


@lru_cache(None)
def known_of(plant):
    """What is known of the STANDS of a WORKS; test_kept looks at whether it is so."""
    return Known(plant, MOST, counts_all=False)


def is_kept(plant, stand):
    return known_of(plant).is_kept(stand)


class Heights:
    """HEIGHTS of STANDS, asked for by the WEB of one that isn't known yet."""

    def __init__(self, plant):
        self.plant = plant
        self.known = {}

    def of(self, stand):
        if stand not in self.known:
            self.known.update(kept_within(self.plant, stand))
        return self.known[stand]


class Forever(unittest.TestCase):
    def bring(self, keeper, heights, name, good, chance):
        """Has a GOOD come in a HOUSE that is at the beginning of a beat, in as many beats as its HEIGHT tells."""
        plant = keeper.works_now()
        g = goods_of(plant).index(good)
        number = heights.of(keeper.stand_of(name))[g]
        for _ in range(number):
            stand = keeper.stand_of(name)
            height = heights.of(stand)[g]
            strikes = strikes_at(plant, stand)
            if strikes and keeper.is_open(name) and next(chance) % 2 == 0:
                keeper.strike(name, strikes[next(chance) % len(strikes)])
            for turn in turns_of(plant, keeper.stand_of(name)):
                there, comes = turn_led(plant, keeper.stand_of(name), turn)
                if is_kept(plant, there) and (good in comes or heights.of(there)[g] < height):
                    break
            else:
                self.fail((keeper.log(), good))
            for deed in turn:
                keeper.do(name, deed)
            for other in keeper.names():
                self.ready(keeper, other)
            told = dict(keeper.beat())[name]
            if good in told:
                return
        self.fail((keeper.log(), good))

    def ready(self, keeper, name):
        """Does deeds in a HOUSE until its BEAT leads to a KEPT STAND."""
        plant = keeper.works_now()
        stand = keeper.stand_of(name)
        for turn in turns_of(plant, stand):
            if is_kept(plant, turn_led(plant, stand, turn)[0]):
                for deed in turn:
                    keeper.do(name, deed)
                return
        self.fail((keeper.log(), name))

    def wander(self, keeper, chance, many):
        """Rows of all sorts, some of them refused, some of them taken back and done again."""
        plant = keeper.works_now()
        for _ in range(many):
            ahead = looks_of(keeper)
            row = some_row(keeper, plant, chance)
            if refusal(act, keeper, row) is not None:
                self.assertEqual(looks_of(keeper), ahead)
            elif next(chance) % 5 == 0:
                behind = looks_of(keeper)
                self.assertEqual(keeper.back(), (row,))
                self.assertEqual(looks_of(keeper), ahead)
                self.assertEqual(keeper.do_all([row]), 1)
                self.assertEqual(looks_of(keeper), behind)
            if keeper.log()[-1] == BEAT:
                for name in keeper.names():
                    self.assertTrue(is_kept(plant, keeper.stand_of(name)))
            self.assertTrue(keeper.may_beat() or any(keeper.may(name) for name in keeper.names()))
        if not keeper.may_beat():
            for name in keeper.names():
                self.ready(keeper, name)
        keeper.beat()

    def long(self, plant, stand, seed, turns, many):
        chance = numbers(seed)
        heights = Heights(plant)
        keeper = Keeper(plant, stand)
        for _ in range(turns):
            self.wander(keeper, chance, many)
            for name in keeper.names():
                for good in goods_of(plant):
                    self.bring(keeper, heights, name, good, chance)
        for name in keeper.names():
            begun, sprung, had, sent, ash, struck, there = keeper.ledger(name)
            self.assertEqual(begun + sprung + had, sent + ash + struck + there)
        again = replayed(keeper.log())
        self.assertEqual(looks_of(again), looks_of(keeper))
        self.assertEqual(again, keeper)
        keeper.back(times=len(keeper.log()) - 1)
        self.assertEqual(keeper, Keeper(plant, stand))
        self.assertEqual(keeper.do_all(again.log()[1:]), len(again.log()) - 1)
        self.assertEqual(looks_of(again), looks_of(keeper))
        return keeper

    def test_of_one_kind(self):
        for plant, seed in ((SMALL, 1), (ASKED, 2), (DRIPS, 3), (SLOW, 4), (NEEDY, 5)):
            self.long(plant, full_stand(plant), seed, 3, 12)

    def test_with_cuttings(self):
        houses = 0
        for plant, seed in ((WIDE, 31), (WIDE, 32), (WIDE, 33), (TAKING, 34), (STUFF, 35)):
            houses = max(houses, len(self.long(plant, full_stand(plant), seed, 2, 16)))
        self.assertGreater(houses, 1)

    def test_of_two_kinds(self):
        self.long(TWINS, TWINS_AT, 6, 1, 15)

    def test_the_least_house(self):
        """A house that begins with what is LEAST, and one that is cut as small as can be, go on for ever, too."""
        for plant in (SMALL, WIDE):
            for rest in (0, plant[5][1]):
                for stand in least_stands(plant, phase=1, rest=rest)[:2]:
                    self.long(plant, stand, 8, 1, 8)
        keeper = Keeper(WIDE, full_stand(WIDE))
        for lot in least_cuttings(WIDE, full_stand(WIDE)):
            keeper.cut("mother", "cup", lot)
            heights = Heights(WIDE)
            chance = numbers(9)
            self.ready(keeper, "mother")
            self.ready(keeper, "cup")
            keeper.beat()
            for name in ("cup", "mother", "cup"):
                for good in goods_of(WIDE):
                    self.bring(keeper, heights, name, good, chance)
            keeper.back(times=len(keeper.log()) - 1)

    def test_whoever_strikes(self):
        """The FOE strikes whenever he can, the brightest leaf there is, mostly: the mother never is without leaves."""
        for plant in (SMALL, ASKED, TAKING):
            heights = Heights(plant)
            keeper = Keeper(plant, full_stand(plant))
            goods = goods_of(plant)
            came = {good: 0 for good in goods}
            for step in range(40):
                good = goods[step // 8 % len(goods)]
                g = goods.index(good)
                stand = keeper.stand_of("mother")
                height = heights.of(stand)[g]
                strikes = strikes_at(plant, stand)
                if strikes and keeper.is_open("mother"):
                    keeper.strike("mother", strikes[-3] if len(strikes) > 2 and step % 3 else strikes[0])
                options = [
                    turn for turn in turns_of(plant, keeper.stand_of("mother"))
                    for there, comes in [turn_led(plant, keeper.stand_of("mother"), turn)]
                    if is_kept(plant, there) and (good in comes or heights.of(there)[g] < height)
                ]
                for deed in options[0]:
                    keeper.do("mother", deed)
                for one in dict(keeper.beat())["mother"]:
                    came[one] += 1
                self.assertGreater(len(keeper.stand_of("mother")[1][0]) + len(keeper.stand_of("mother")[3]), 0)
            self.assertGreater(min(came.values()), 2, came)


class Promised(unittest.TestCase):
    def test_papers_of_all_that_is_told(self):
        """(M4): whether a STAND is KEPT one sort of paper alone tells; where weights are none is."""
        for plant in (SMALL, DRIPS, FALLING, PAIR):
            stand = full_stand(plant)
            paper = kept_paper(plant, stand)
            self.assertEqual(lets_kept(plant, stand, paper), "kept" if is_kept(plant, stand) else "lost")
            if dry_paper(plant) is not None:
                self.assertEqual(paper[0], "lost")

    def test_barren_goods_never_come(self):
        """[18]: what is in a BARREN SET of the STOCK of a STAND never COMES."""
        plant = ((("a", (("b", 1),), 0, 1, 1, 0), ("b", (("b", 1),), 0, 1, 1, 0)), ((), 0, 1), (2, 0, 1), (1, 2, 1, 0), (0, 1), (1, 1), 1)
        stand = ((0, 0), ((1, 1), (1,)), 0, (), 1, 0)
        stock = (("leaf", "a"), ("leaf", "b"))
        self.assertEqual(barren_goods(plant, stock), (("tool", "a"), ("tool", "b")))
        for good in goods_of(plant):
            if beats_to(plant, stand, good) is not None:
                self.assertIn(good, ever_come(plant, stock))
        self.assertEqual(beats_to(plant, changed(stand, 0, (0, 1)), ("tool", "a")), 1)

    def test_more_never_harms(self):
        """(M2): what is NO LESS than a KEPT one is KEPT, a making more, a light more, a rest more."""
        for plant in (SMALL, TAKING):
            kept = [stand for stand, _ in kept_within(plant, full_stand(plant))][::9]
            for stand in kept:
                for other in (
                    changed(stand, 5, plant[5][1]), changed(stand, 0, (plant[3][0],)), changed(stand, 2, plant[3][3]),
                    changed(stand, 1, ((plant[3][2],) * plant[3][1],)),
                    changed(stand, 3, tuple(sorted(stand[3] + ((("tool", "a"), 1),)))[:plant[6]]),
                ):
                    if is_no_less(other, stand):
                        self.assertTrue(is_kept(plant, other), (stand, other))


if __name__ == "__main__":
    unittest.main()
