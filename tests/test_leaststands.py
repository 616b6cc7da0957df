"""Points [59], [60], [61]: LOWERED STANDS, and the LEAST ones that are KEPT."""

import unittest

from handsmade.bounds import MOST
from handsmade.kept import is_kept
from handsmade.known import Known
from handsmade.leaststands import least_stands, lowered
from handsmade.order import is_no_less
from handsmade.standchecker import is_right_stand
from handsmade.stands import full_stand, void_stand
from plain import all_stands, no_less
from samples import ASKED, DRIPS, MILL, NEEDY, PAIR, PLANT, SLOW, SMALL, TINY, TWINS, changed, refusal
from webplain import all_kept, web_from


def steps_down(stand):
    """All STANDS that are a step of LOWERING below, by trying each."""
    uses, leaves, store, *others = stand
    found = {(uses, leaves, store - 1, *others)} if store else set()
    for k, many in enumerate(uses):
        if many:
            found.add((changed(uses, k, many - 1), leaves, store, *others))
    for k, lights in enumerate(leaves):
        for j, light in enumerate(lights):
            less = list(lights)
            if light:
                less[j] -= 1
            else:
                del less[j]
            found.add((uses, changed(leaves, k, tuple(sorted(less, reverse=True))), store, *others))
    return tuple(sorted(found))


def bare_ones(plant, phase, rest):
    return [stand for stand in all_stands(plant) if stand[3:] == ((), phase, rest)]


class Lowered(unittest.TestCase):
    def test_by_hand(self):
        pens = ((("tool", "pen"), 1),)
        stand = ((2, 0), ((2, 2, 0), ()), 1, pens, 2, 1)
        self.assertEqual(lowered(works=PLANT, stand=stand), (
            ((1, 0), ((2, 2, 0), ()), 1, pens, 2, 1), ((2, 0), ((2, 1, 0), ()), 1, pens, 2, 1),
            ((2, 0), ((2, 2), ()), 1, pens, 2, 1), ((2, 0), ((2, 2, 0), ()), 0, pens, 2, 1),
        ))

    def test_edges(self):
        self.assertEqual(lowered(PLANT, void_stand(PLANT)), ())
        self.assertEqual(lowered(SMALL, ((0,), ((0,),), 0, (), 1, 3)), (((0,), ((),), 0, (), 1, 3),))
        # Twins: whichever goes down, it is one STAND.
        self.assertEqual(lowered(SMALL, ((0,), ((0, 0, 0),), 0, (), 1, 3)), (((0,), ((0, 0),), 0, (), 1, 3),))
        self.assertEqual(lowered(SMALL, ((0,), ((1, 1, 1),), 0, (), 1, 3)), (((0,), ((1, 1, 0),), 0, (), 1, 3),))
        self.assertEqual(lowered(SMALL, ((0,), ((2, 1, 1),), 0, (), 1, 3)), (
            ((0,), ((1, 1, 1),), 0, (), 1, 3), ((0,), ((2, 1, 0),), 0, (), 1, 3),
        ))

    def test_against_trying_each(self):
        for plant in (TINY, SMALL, ASKED, DRIPS, PAIR):
            for stand in all_stands(plant)[::7]:
                told = lowered(plant, stand)
                self.assertEqual(told, steps_down(stand))
                for there in told:
                    self.assertTrue(is_right_stand(plant, there))
                    self.assertTrue(is_no_less(stand, there) and not is_no_less(there, stand))
        for plant in (PLANT, MILL):
            self.assertEqual(lowered(plant, full_stand(plant)), steps_down(full_stand(plant)))

    def test_again_and_again(self):
        """[59]: each STAND that is NO MORE, of the same makings and rest, is come to, or is it."""
        stands = all_stands(TINY)
        for stand in stands[::23]:
            found = {stand}
            waiting = [stand]
            while waiting:
                for there in lowered(TINY, waiting.pop()):
                    if there not in found:
                        found.add(there)
                        waiting.append(there)
            self.assertEqual(found, {
                other for other in stands if other[3:] == stand[3:] and is_no_less(stand, other)
            })


class Least(unittest.TestCase):
    def told(self, plant, phase, rest):
        """The LEAST ones by looking at each BARE one."""
        kept = all_kept(plant, bare_ones(plant, phase, rest))
        return tuple(sorted(
            stand for stand in kept if not any(other != stand and no_less(stand, other) for other in kept)
        ))

    def test_by_hand(self):
        self.assertEqual(least_stands(works=SMALL, phase=1, rest=0), (
            ((0,), ((1, 1, 0),), 0, (), 1, 0), ((0,), ((2, 2),), 0, (), 1, 0),
        ))
        self.assertEqual(least_stands(SMALL, phase=1, rest=3), (
            ((0,), ((0, 0, 0),), 0, (), 1, 3), ((0,), ((1, 0),), 0, (), 1, 3), ((0,), ((2,),), 0, (), 1, 3),
        ))

    def test_against_looking_at_each(self):
        for plant in (SMALL, ASKED, DRIPS, SLOW, NEEDY):
            for phase in range(1, plant[4][1] + 1):
                for rest in (0, 1, plant[5][1]):
                    told = least_stands(plant, phase=phase, rest=rest)
                    self.assertEqual(told, self.told(plant, phase, rest), (plant, phase, rest))
                    self.assertNotEqual(told, ())

    def test_none(self):
        for plant in (TINY, PAIR):
            for rest in range(plant[5][1] + 1):
                self.assertEqual(least_stands(plant, phase=1, rest=rest), ())

    def test_of_two_kinds(self):
        self.assertEqual(least_stands(TWINS, phase=1, rest=0), (((0, 0), ((2, 1), (2, 1)), 0, (), 1, 0),))

    def test_no_more(self):
        for plant, phase, rest in ((SMALL, 1, 0), (SMALL, 1, 3), (TINY, 2, 1)):
            bare = bare_ones(plant, phase, rest)
            web = max(len(web_from(plant, stand)) for stand in bare)
            self.assertGreater(web, len(bare))
            told = least_stands(plant, phase=phase, rest=rest)
            self.assertEqual(least_stands(plant, phase=phase, rest=rest, most=web), told)
            # As many as the web of one of them, but one; as many as there are, fewer than there are, none.
            for most in (web - 1, len(bare), len(bare) - 1, 0):
                self.assertEqual(refusal(least_stands, plant, phase=phase, rest=rest, most=most), ("NoMore", most))

    def test_more_bare_ones_than_their_webs_have(self):
        # No leaf can be read, nothing ever comes: the webs are little ones, but there are many BARE STANDS.
        plant = ((("a", (("a", 9),), 9, 1, 1, 0),), ((("a", 9),), 9, 1), (3, 9, 1), (1, 3, 1, 4), (0, 1), (1, 1), 1)
        bare = bare_ones(plant, 1, 0)
        web = max(len(web_from(plant, stand)) for stand in bare)
        self.assertLess(web, len(bare) + 1)
        self.assertEqual(least_stands(plant, phase=1, rest=0, most=len(bare)), ())
        for most in (len(bare) - 1, web - 1):
            self.assertEqual(refusal(least_stands, plant, phase=1, rest=0, most=most), ("NoMore", most))

    def test_far_too_many(self):
        self.assertEqual(refusal(least_stands, MILL, phase=1, rest=0), ("NoMore", MOST))
        self.assertEqual(refusal(least_stands, PLANT, phase=1, rest=0), ("NoMore", MOST))

    def test_by_their_names_alone(self):
        for arguments in ((SMALL, 1, 0), (SMALL, 1)):
            with self.assertRaises(TypeError):
                least_stands(*arguments)

    def test_what_least_ones_tell(self):
        """[61], (M5): a BARE one is KEPT just where it is NO LESS than a LEAST one, a LEAST one has no LOWERED kept."""
        for plant in (SMALL, ASKED, DRIPS):
            known = Known(plant, MOST)
            ahead = []
            for rest in range(plant[5][1] + 1):
                least = least_stands(plant, phase=1, rest=rest)
                for stand in bare_ones(plant, 1, rest):
                    kept = known.is_kept(stand)
                    self.assertIs(kept, any(is_no_less(stand, one) for one in least))
                    lows = [there for there in lowered(plant, stand) if known.is_kept(there)]
                    self.assertIs(stand in least, kept and lows == [])
                # What is KEPT with some rest is with each greater one.
                self.assertTrue(all(is_kept(plant, changed(stand, 5, rest)) for stand in ahead))
                ahead = least


if __name__ == "__main__":
    unittest.main()
