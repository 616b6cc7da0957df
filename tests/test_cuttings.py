"""Points [66], [67], [68], [69]: LOTS, what is LEFT, DAUGHTERS, CUTTINGS."""

import unittest
from itertools import combinations, product

from handsmade.bounds import MOST
from handsmade.cuttings import daughter_of, is_lot, least_cuttings, left_of, may_cut
from handsmade.kept import is_kept
from handsmade.known import Known
from handsmade.order import is_no_less
from handsmade.standchecker import is_right_stand
from handsmade.stands import full_stand, void_stand
from plain import no_less
from samples import ASKED, BIG, DRIPS, MILL, MIXED, ODD, PAIR, PLANT, SLOW, SMALL, TINY, TWINS, WIDE, changed, refusal
from webplain import kept_from, web_from

STAND = ((3, 1), ((2, 1, 1, 0), (1,)), 4, ((("tool", "cup"), 2),), 2, 1)


def all_lots(stand):
    """All LOTS that are IN a STAND, rising."""
    rows = [
        sorted({tuple(chosen) for many in range(len(lights) + 1) for chosen in combinations(lights, many)})
        for lights in stand[1]
    ]
    return sorted(
        (uses, leaves, stuff)
        for uses in product(*[range(many + 1) for many in stand[0]])
        for leaves in product(*rows) for stuff in range(stand[2] + 1)
    )


class Lots(unittest.TestCase):
    def test_is_one(self):
        for lot in (
            ((0, 0), ((), ()), 0), ((3, 3), ((2, 2, 2, 2), (2, 2, 2, 2)), 6), ((1, 0), ((2, 0), (1, 1)), 3),
            ((0, 3), ((), (0, 0, 0, 0)), 6),
        ):
            self.assertIs(is_lot(PLANT, lot), True)
            self.assertIs(is_lot(works=PLANT, thing=lot), True)

    def test_is_none(self):
        for thing in ODD + [
            # One above each bound.
            ((4, 0), ((), ()), 0), ((0, 4), ((), ()), 0), ((0, 0), ((2,) * 5, ()), 0), ((0, 0), ((), (0,) * 5), 0),
            ((0, 0), ((3,), ()), 0), ((0, 0), ((), (3, 2)), 0), ((0, 0), ((), ()), 7), ((0, BIG), ((), ()), 0),
            # Rising lights, too few KINDS, too many.
            ((0, 0), ((1, 2), ()), 0), ((0, 0), ((), (0, 1)), 0), ((0,), ((),), 0), ((0, 0, 0), ((), (), ()), 0),
            ((0,), ((), ()), 0), ((0, 0), ((),), 0), ((), (), 0),
            # Lists, truths, numbers below 0.
            [(0, 0), ((), ()), 0], ([0, 0], ((), ()), 0), ((0, 0), [(), ()], 0), ((0, 0), ([], ()), 0),
            ((0, 0), ([1], ()), 0),
            ((True, 0), ((), ()), 0), ((0, 0), ((True,), ()), 0), ((0, 0), ((), ()), True), ((0, 0), ((), ()), False),
            ((0, False), ((), ()), 0), ((-1, 0), ((), ()), 0), ((0, 0), ((-1,), ()), 0), ((0, 0), ((), ()), -1),
            ((0, 0), ((), ())), ((0, 0), ((), ()), 0, ()), ((0, 0), ((), ()), None), ((0, 0), ((), None), 0),
            ((0, 0), ("", ""), 0), ((0, 0), (2, 1), 0), (("0", "0"), ((), ()), 0), "0,0 -;- 0", STAND,
            (None, ((), ()), 0),
        ]:
            self.assertIs(is_lot(PLANT, thing), False, thing)
            self.assertIsNone(left_of(PLANT, STAND, thing), thing)
            self.assertIs(may_cut(PLANT, STAND, thing), False) if thing.__class__ is tuple else None

    def test_left(self):
        for lot, told in (
            (((0, 0), ((), ()), 0), STAND[:3]),
            (((3, 1), ((2, 1, 1, 0), (1,)), 4), ((0, 0), ((), ()), 0)),
            (((1, 0), ((1,), ()), 2), ((2, 1), ((2, 1, 0), (1,)), 2)),
            (((0, 0), ((1, 1), ()), 0), ((3, 1), ((2, 0), (1,)), 4)),
            (((0, 1), ((2, 0), (1,)), 4), ((3, 0), ((1, 1), ()), 0)),
        ):
            self.assertEqual(left_of(PLANT, STAND, lot), told + STAND[3:])
            self.assertEqual(left_of(works=PLANT, stand=STAND, lot=lot), told + STAND[3:])

    def test_not_in_it(self):
        for lot in (
            ((0, 2), ((), ()), 0), ((0, 0), ((2, 2), ()), 0), ((0, 0), ((), (1, 1)), 0), ((0, 0), ((), (0,)), 0),
            ((0, 0), ((), (2,)), 0), ((0, 0), ((1, 1, 1), ()), 0), ((0, 0), ((), ()), 5), ((0, 0), ((), ()), 6),
            ((3, 2), ((2,), (1,)), 0),
        ):
            self.assertTrue(is_lot(PLANT, lot))
            self.assertIsNone(left_of(PLANT, STAND, lot), lot)
        # Another leaf for each: what is there once can't be had twice.
        once, twice = changed(STAND, 1, ((1, 0), ())), changed(STAND, 1, ((1, 1), ()))
        lot = ((0, 0), ((1, 1), ()), 0)
        self.assertIsNone(left_of(PLANT, once, lot))
        self.assertEqual(left_of(PLANT, twice, lot), changed(STAND, 1, ((), ())))

    def test_daughter(self):
        lot = ((1, 0), ((2, 0), (1,)), 3)
        self.assertEqual(daughter_of(PLANT, STAND, lot), ((1, 0), ((2, 0), (1,)), 3, (), 2, 3))
        self.assertEqual(daughter_of(works=PLANT, stand=changed(STAND, 4, 1), lot=lot)[3:], ((), 1, 3))

    def test_daughter_rests_as_long_as_the_foe_does(self):
        for rest in range(6):
            stand = changed(changed(full_stand(MIXED), 5, rest), 4, 7)
            lot = ((1, 0, 2), ((1,), (), (1, 1)), 5)
            self.assertEqual(daughter_of(MIXED, stand, lot), lot + ((), 7, 5))

    def test_all_leaves_but_one_on_the_benches(self):
        stand = ((0,), ((3,),), 0, ((("leaf", "a", 3), 1),), 1, 4)
        self.assertIs(may_cut(WIDE, stand, ((0,), ((3,),), 0)), True)
        self.assertEqual(least_cuttings(WIDE, stand), (((0,), ((3,),), 0),))

    def test_both_are_right(self):
        for plant, stand in ((PLANT, STAND), (PAIR, full_stand(PAIR, rest=1)), (DRIPS, full_stand(DRIPS, phase=1))):
            for lot in all_lots(stand):
                self.assertTrue(is_lot(plant, lot))
                self.assertTrue(is_right_stand(plant, left_of(plant, stand, lot)))
                self.assertTrue(is_right_stand(plant, daughter_of(plant, stand, lot)))
                self.assertTrue(is_no_less(stand, left_of(plant, stand, lot)))


class May(unittest.TestCase):
    def cases(self):
        return [
            (WIDE, full_stand(WIDE, rest=rest)) for rest in (0, 4)
        ] + [(WIDE, ((1,), ((3, 3, 2),), 0, (), 1, 2)), (SMALL, full_stand(SMALL, rest=3)),
             (DRIPS, full_stand(DRIPS, rest=1)),
             (WIDE, ((0,), ((3,),), 0, ((("leaf", "a", 3), 1),), 1, 4)),
             (WIDE, ((1,), ((2, 1),), 0, ((("leaf", "a", 2), 1),), 1, 3)),
             (ASKED, full_stand(ASKED, rest=2)), (SLOW, full_stand(SLOW, rest=5)), (SMALL, full_stand(SMALL))]

    def test_against_going_through_all(self):
        told = {True: 0, False: 0}
        for plant, stand in self.cases():
            lots = all_lots(stand)
            cut = []
            for lot in lots[::2 if len(lots) < 40 else 7]:
                may = kept_from(plant, left_of(plant, stand, lot)) and kept_from(plant, daughter_of(plant, stand, lot))
                self.assertIs(may_cut(plant, stand, lot), may, lot)
                told[may] += 1
                cut += [lot] if may else []
        self.assertGreater(min(told.values()), 10)

    def test_least_against_going_through_all(self):
        some = 0
        for plant, stand in self.cases():
            known = Known(plant, MOST)
            cut = [
                lot for lot in all_lots(stand)
                if known.is_kept(left_of(plant, stand, lot)) and known.is_kept(daughter_of(plant, stand, lot))
            ]
            daughters = {lot: daughter_of(plant, stand, lot) for lot in cut}
            least = tuple(
                lot for lot in cut
                if not any(other != lot and no_less(daughters[lot], daughters[other]) for other in cut)
            )
            told = least_cuttings(plant, stand)
            self.assertEqual(told, least)
            self.assertEqual(least_cuttings(works=plant, stand=stand, most=MOST), least)
            # Each that MAY BE CUT has one of them that is NO MORE.
            for lot in cut:
                self.assertTrue(any(is_no_less(daughters[lot], daughters[one]) for one in told))
            some += told != ()
        self.assertGreater(some, 2)

    def test_by_hand(self):
        # Two bright leaves may go, as the foe rests behind that, and then two are left.
        self.assertEqual(least_cuttings(WIDE, full_stand(WIDE)), (((0,), ((3,),), 0),))
        self.assertIs(may_cut(WIDE, full_stand(WIDE), ((0,), ((3,),), 0)), True)
        self.assertIs(may_cut(works=WIDE, stand=full_stand(WIDE), lot=((1,), ((3, 3),), 0)), True)
        self.assertIs(may_cut(WIDE, full_stand(WIDE), ((0,), ((),), 0)), False)
        self.assertIs(may_cut(WIDE, full_stand(WIDE), ((0,), ((3,) * 4,), 0)), False)
        self.assertIs(may_cut(WIDE, full_stand(WIDE), ((0,), ((2,),), 0)), False)

    def test_none(self):
        for plant, stand in ((WIDE, void_stand(WIDE)), (TINY, full_stand(TINY)), (PAIR, full_stand(PAIR))):
            self.assertEqual(least_cuttings(plant, stand), ())
            self.assertIs(may_cut(plant, stand, ((0,) * len(plant[0]), ((),) * len(plant[0]), 0)), False)

    def test_of_two_kinds(self):
        # Each house needs both leaves; none of these has enough for two.
        stand = ((1, 1), ((2, 2), (2, 2)), 0, (), 1, 0)
        self.assertEqual(least_cuttings(TWINS, stand), ())
        self.assertIs(may_cut(TWINS, stand, ((1, 1), ((2,), (2,)), 0)), False)

    def test_no_more(self):
        stand = full_stand(SMALL, rest=3)
        lots = all_lots(stand)
        for lot in lots:
            left, daughter = left_of(SMALL, stand, lot), daughter_of(SMALL, stand, lot)
            many, more = len(web_from(SMALL, left)), len(web_from(SMALL, daughter))
            told = may_cut(SMALL, stand, lot)
            # The DAUGHTER is asked about only where what is LEFT is kept.
            asked = max(many, more) if kept_from(SMALL, left) else many
            self.assertIs(may_cut(SMALL, stand, lot, most=asked), told)
            self.assertEqual(refusal(may_cut, SMALL, stand, lot, most=asked - 1), ("NoMore", asked - 1))
            self.assertEqual(refusal(may_cut, SMALL, stand, lot, most=1), ("NoMore", 1) if asked > 1 else None)
        # Of a thing that isn't IN it nothing is asked.
        self.assertIs(may_cut(SMALL, stand, ((1,), ((1,),), 0), most=1), False)
        self.assertIs(may_cut(SMALL, stand, ((9,), ((1,),), 0), most=1), False)

    def test_no_more_of_the_daughter_alone(self):
        # What is LEFT has a lesser WEB than the DAUGHTER where the DAUGHTER has more.
        found = []
        for plant, stand in ((WIDE, full_stand(WIDE)), (DRIPS, full_stand(DRIPS, rest=2))):
            for lot in all_lots(stand):
                left, daughter = left_of(plant, stand, lot), daughter_of(plant, stand, lot)
                many, more = len(web_from(plant, left)), len(web_from(plant, daughter))
                if many < more:
                    found.append(kept_from(plant, left))
                    if found[-1]:
                        self.assertEqual(refusal(may_cut, plant, stand, lot, most=many), ("NoMore", many))
                    else:
                        self.assertIs(may_cut(plant, stand, lot, most=many), False)
        self.assertEqual(set(found), {True, False})

    def test_least_no_more(self):
        for plant, stand in ((SMALL, full_stand(SMALL, rest=3)), (DRIPS, full_stand(DRIPS, rest=3)),
                             (TINY, full_stand(TINY))):
            asked = 0
            for lot in all_lots(stand):
                left = left_of(plant, stand, lot)
                asked = max(asked, len(web_from(plant, left)))
                if kept_from(plant, left):
                    asked = max(asked, len(web_from(plant, daughter_of(plant, stand, lot))))
            told = least_cuttings(plant, stand)
            self.assertEqual(least_cuttings(plant, stand, most=asked), told)
            for most in (asked - 1, asked // 2, 1):
                self.assertEqual(refusal(least_cuttings, plant, stand, most=most), ("NoMore", most))
        self.assertEqual(refusal(least_cuttings, MILL, changed(full_stand(MILL), 1, ((3,), (3,), (3, 3, 2)))),
                         ("NoMore", MOST))
        with self.assertRaises(TypeError):
            least_cuttings(SMALL, full_stand(SMALL), 2000)

    def test_more_never_harms(self):
        """[69], (M5): a DAUGHTER of a LOT no less than one of a least one is KEPT, too."""
        for plant, stand in self.cases():
            least = [daughter_of(plant, stand, lot) for lot in least_cuttings(plant, stand)]
            for lot in all_lots(stand)[::2]:
                daughter = daughter_of(plant, stand, lot)
                if any(is_no_less(daughter, one) for one in least):
                    self.assertTrue(is_kept(plant, daughter))


if __name__ == "__main__":
    unittest.main()
