"""Points [70], [71], [72]: a KEEPER's deeds, and what it refuses."""

import unittest

from handsmade.bounds import MOST
from handsmade.cuttings import daughter_of, left_of, may_cut
from handsmade.deeds import done
from handsmade.errors import NoDeed, NoHouse, NoKeep
from handsmade.kept import is_kept, is_safe
from handsmade.keeper import Keeper
from handsmade.stands import full_stand, void_stand
from handsmade.strikes import struck
from plain import deed_list
from plainkeeper import looks_of
from samples import ASKED, DRIPS, MILL, SMALL, TINY, TWINS, WIDE, refusal

BEAT = ("beat",)
LOT = ((0,), ((3,),), 0)
NONE = ((0,), ((),), 0)


class Case(unittest.TestCase):
    def refused(self, keeper, word, arguments, error, *fields):
        """It is refused by this error with these very fields; all looks are as they were, but counts."""
        ahead = looks_of(keeper), keeper.may("mother"), keeper.may_beat()
        begun, ended = keeper.counts()
        with self.assertRaises(error) as caught:
            getattr(keeper, word)(*arguments)
        self.assertIs(caught.exception.__class__, error)
        self.assertEqual(list(vars(caught.exception).values()), list(fields), (word, arguments))
        self.assertEqual((looks_of(keeper), keeper.may("mother"), keeper.may_beat()), ahead)
        self.assertEqual(keeper.counts(), (begun + 1, ended + 1))
        return caught.exception


class Made(unittest.TestCase):
    def test_of_a_kept_stand(self):
        for plant in (SMALL, ASKED, DRIPS):
            stand = full_stand(plant)
            keeper = Keeper(works=plant, stand=stand)
            self.assertEqual(keeper.names(), ("mother",))
            self.assertEqual(keeper.stand_of("mother"), stand)
            self.assertIs(keeper.is_open("mother"), True)
            self.assertEqual(keeper.log(), (("keeper", plant, stand),))
            self.assertEqual((len(keeper), str(keeper), keeper.counts()), (1, "mother 0", (0, 0)))
            self.assertEqual(keeper.works_now(), plant)

    def test_of_one_that_is_not_kept(self):
        for plant, stand in (
            (SMALL, void_stand(SMALL)), (SMALL, ((1,), ((2, 1),), 0, (), 1, 0)), (TINY, full_stand(TINY)),
            (TWINS, ((1, 1), ((2, 1), (1, 1)), 0, (), 1, 0)),
        ):
            self.assertFalse(is_kept(plant, stand))
            self.assertEqual(refusal(Keeper, plant, stand), ("NoKeep", None))

    def test_no_more(self):
        self.assertEqual(refusal(Keeper, MILL, full_stand(MILL)), ("NoMore", MOST))


class Do(Case):
    def test_done(self):
        keeper = Keeper(SMALL, full_stand(SMALL))
        stand = keeper.stand_of("mother")
        for deed in (("make", "a", 2), ("copy", "a", 2), ("break", 1)):
            stand = done(SMALL, stand, deed)
            self.assertEqual(keeper.do(name="mother", deed=deed), stand)
            self.assertEqual(keeper.stand_of("mother"), stand)
            self.assertIs(keeper.is_open("mother"), False)
            self.assertEqual(keeper.log()[-1], ("do", "mother", deed))
            self.assertEqual(keeper.rows_of("mother")[-1], ("do", "mother", deed))

    def test_no_house(self):
        keeper = Keeper(SMALL, full_stand(SMALL))
        for name in ("cup", "a", "mothers", "fathers"):
            self.refused(keeper, "do", (name, ("make", "a", 2)), NoHouse, name)
            # Ahead of a DEED that is barred.
            self.refused(keeper, "do", (name, ("make", "b", 2)), NoHouse, name)

    def test_barred(self):
        keeper = Keeper(ASKED, full_stand(ASKED))
        for deed, why in (
            (("make", "b", 3), "kind"), (("agree", "no", (3, 3)), "kind"), (("break", 0), "making"),
            (("make", "a", 2), "leaf"),
            (("copy", "a", 0), "leaf"), (("agree", "a", (3, 3, 3)), "leaf"), (("agree", "a", (3, 2)), "leaf"),
        ):
            error = self.refused(keeper, "do", ("mother", deed), NoDeed, deed, why)
            self.assertIs(error.deed, deed)
        keeper.do("mother", ("copy", "a", 3))
        self.refused(keeper, "do", ("mother", ("copy", "a", 3)), NoDeed, ("copy", "a", 3), "tool")
        keeper.do("mother", ("make", "a", 3))
        self.refused(keeper, "do", ("mother", ("make", "a", 3)), NoDeed, ("make", "a", 3), "bench")
        self.refused(keeper, "do", ("mother", ("break", 2)), NoDeed, ("break", 2), "making")

    def test_stuff(self):
        keeper = Keeper(ASKED, ((2,), ((3, 3, 3),), 0, (), 1, 0))
        self.refused(keeper, "do", ("mother", ("copy", "a", 3)), NoDeed, ("copy", "a", 3), "stuff")

    def test_not_safe(self):
        # Struck, one leaf of light 1 and a dark one are left: only copying saves them.
        keeper = Keeper(SMALL, ((1,), ((1, 1, 0),), 0, (), 1, 0))
        keeper.strike("mother", ("leaf", "a", 1))
        for deed in (("make", "a", 1), ("agree", "a", (1, 0))):
            error = self.refused(keeper, "do", ("mother", deed), NoKeep, ("do", "mother", deed))
            self.assertEqual(error.deed.__class__, tuple)
        self.assertEqual(keeper.may("mother"), (("copy", "a", 1),))
        keeper.do("mother", ("copy", "a", 1))
        self.refused(keeper, "do", ("mother", ("break", 0)), NoKeep, ("do", "mother", ("break", 0)))

    def test_against_each_deed(self):
        """Behind a DEED that is let the STAND is SAFE, behind one refused by NoKeep it isn't."""
        for plant in (SMALL, ASKED, DRIPS):
            keeper = Keeper(plant, full_stand(plant))
            keeper.strike("mother", ("leaf", "a", plant[3][2]))
            for _ in range(6):
                stand = keeper.stand_of("mother")
                let = []
                for deed in deed_list(plant):
                    told = refusal(keeper.do, "mother", deed)
                    if told is None:
                        self.assertTrue(is_safe(plant, done(plant, stand, deed)))
                        let.append(deed)
                        self.assertEqual(keeper.back(), (("do", "mother", deed),))
                    elif told[0] == "NoKeep":
                        self.assertFalse(is_safe(plant, done(plant, stand, deed)))
                self.assertEqual(keeper.may("mother"), tuple(let))
                if keeper.may_beat():
                    keeper.beat()
                else:
                    keeper.do("mother", let[-1])


class Beat(Case):
    def test_beat(self):
        keeper = Keeper(SMALL, full_stand(SMALL))
        keeper.do("mother", ("make", "a", 2))
        keeper.do("mother", ("copy", "a", 2))
        told = keeper.beat()
        self.assertEqual(told, (("mother", (("leaf", "a"), ("tool", "a"))),))
        self.assertIs(told.__class__, tuple)
        self.assertEqual(keeper.stand_of("mother"), ((1,), ((2, 1, 1),), 0, (), 1, 0))
        self.assertIs(keeper.is_open("mother"), True)
        self.assertEqual(keeper.log()[-1], BEAT)
        self.assertEqual(keeper.beat(), (("mother", ()),))
        self.assertEqual(str(keeper), "mother 2")

    def test_of_all_houses(self):
        keeper = Keeper(WIDE, full_stand(WIDE))
        keeper.cut("mother", "cup", LOT)
        keeper.do("cup", ("copy", "a", 3))
        keeper.do("mother", ("make", "a", 3))
        self.assertEqual(keeper.beat(), (("mother", (("tool", "a"),)), ("cup", (("leaf", "a"),))))
        self.assertEqual(keeper.stand_of("cup"), ((0,), ((2, 2),), 0, (), 1, 3))
        self.assertEqual((keeper.is_open("mother"), keeper.is_open("cup")), (True, True))
        self.assertEqual(keeper.came("cup"), ((("leaf", "a"),),))

    def test_not_kept(self):
        # Struck, it has to do something ahead of the beat behind the next one: copy the one leaf, and lay both dark ones
        # together.
        keeper = Keeper(SMALL, ((1,), ((1, 1, 0),), 0, (), 1, 0))
        keeper.strike("mother", ("leaf", "a", 1))
        self.assertIs(keeper.may_beat(), True)
        keeper.beat()
        for deed in (("copy", "a", 1), ("agree", "a", (0, 0))):
            self.assertIs(keeper.may_beat(), False)
            error = self.refused(keeper, "beat", (), NoKeep, BEAT)
            self.assertIs(error.deed.__class__, tuple)
            self.assertEqual(keeper.may("mother"), (deed,))
            keeper.do("mother", deed)
        self.assertIs(keeper.may_beat(), True)
        keeper.beat()
        self.assertEqual(keeper.stand_of("mother"), ((1,), ((2, 0),), 0, (), 1, 1))

    def test_some_house_alone(self):
        keeper = Keeper(WIDE, full_stand(WIDE))
        keeper.cut("mother", "cup", LOT)
        for rest in (3, 2, 1):
            keeper.beat()
            self.assertEqual(keeper.stand_of("cup"), ((0,), ((3,),), 0, (), 1, rest))
        # It is the daughter that has to do something, not the mother: the FOE may strike its one leaf then.
        self.assertIs(keeper.may_beat(), False)
        self.refused(keeper, "beat", (), NoKeep, BEAT)
        keeper.do("cup", ("copy", "a", 3))
        keeper.beat()
        self.assertEqual(keeper.stand_of("cup"), ((0,), ((2, 2),), 0, (), 1, 0))
        self.assertEqual(keeper.stand_of("mother"), ((1,), ((3, 3, 3),), 0, (), 1, 0))


class Strike(Case):
    def test_struck(self):
        for strike in (("leaf", "a", 2), ("tool", "a")):
            keeper = Keeper(SMALL, full_stand(SMALL))
            stand = struck(SMALL, full_stand(SMALL), strike)
            self.assertEqual(keeper.strike(name="mother", strike=strike), stand)
            self.assertEqual(keeper.stand_of("mother"), stand)
            self.assertEqual(keeper.log()[-1], ("strike", "mother", strike))
            self.assertIs(keeper.is_open("mother"), False)

    def test_no_house(self):
        keeper = Keeper(SMALL, full_stand(SMALL))
        keeper.do("mother", ("make", "a", 2))
        # Ahead of one that is late.
        self.refused(keeper, "strike", ("cup", ("leaf", "a", 2)), NoHouse, "cup")

    def test_late(self):
        late = ("leaf", "a", 3)
        keeper = Keeper(WIDE, full_stand(WIDE))
        keeper.do("mother", ("make", "a", 3))
        self.assertIs(self.refused(keeper, "strike", ("mother", late), NoDeed, late, "late").deed, late)
        # Ahead of what 31 refuses.
        self.refused(keeper, "strike", ("mother", ("leaf", "b", 9)), NoDeed, ("leaf", "b", 9), "late")
        keeper.beat()
        keeper.strike("mother", late)
        self.refused(keeper, "strike", ("mother", late), NoDeed, late, "late")
        keeper.back()
        keeper.cut("mother", "cup", LOT)
        # Behind a cut, and of a house that is fresh.
        self.refused(keeper, "strike", ("mother", late), NoDeed, late, "late")
        self.refused(keeper, "strike", ("cup", late), NoDeed, late, "late")
        keeper.beat()
        self.assertEqual((keeper.is_open("cup"), keeper.is_open("mother")), (True, True))
        self.refused(keeper, "strike", ("cup", late), NoDeed, late, "rest")
        keeper.give("mother", "cup", NONE)
        # Behind a give, in both.
        self.refused(keeper, "strike", ("mother", late), NoDeed, late, "late")
        self.refused(keeper, "strike", ("cup", late), NoDeed, late, "late")

    def test_as_31_refuses(self):
        keeper = Keeper(SMALL, full_stand(SMALL))
        for strike, why in (
            (("leaf", "b", 2), "kind"), (("tool", "b"), "kind"), (("leaf", "a", 1), "gone"), (("making", 0), "gone"),
            (("stuff",), "gone"),
        ):
            self.assertIs(self.refused(keeper, "strike", ("mother", strike), NoDeed, strike, why).deed, strike)
        keeper = Keeper(SMALL, full_stand(SMALL, rest=2))
        for strike in (("leaf", "b", 2), ("leaf", "a", 2), ("stuff",)):
            self.refused(keeper, "strike", ("mother", strike), NoDeed, strike, "rest")

    def test_whatever_is_struck_is_let(self):
        for plant in (SMALL, ASKED):
            keeper = Keeper(plant, full_stand(plant))
            for strike in (("leaf", "a", plant[3][2]), ("tool", "a")):
                keeper.strike("mother", strike)
                self.assertTrue(keeper.may_beat() or keeper.may("mother"))
                keeper.back()


class Cut(Case):
    def test_cut(self):
        stand = full_stand(WIDE)
        lot = ((1,), ((3,),), 0)
        keeper = Keeper(WIDE, stand)
        self.assertEqual(keeper.cut(name="mother", fresh="cup", lot=lot), daughter_of(WIDE, stand, lot))
        self.assertEqual(keeper.names(), ("mother", "cup"))
        self.assertEqual(keeper.stand_of("mother"), left_of(WIDE, stand, lot))
        self.assertEqual(keeper.stand_of("cup"), ((1,), ((3,),), 0, (), 1, 4))
        self.assertEqual(keeper.log()[-1], ("cut", "mother", "cup", lot))
        self.assertEqual((keeper.is_open("mother"), keeper.is_open("cup")), (False, False))
        self.assertEqual((len(keeper), str(keeper)), (2, "mother,cup 0"))
        self.assertIs(keeper.has("cup"), True)

    def test_no_house(self):
        keeper = Keeper(WIDE, full_stand(WIDE))
        self.refused(keeper, "cut", ("pen", "cup", LOT), NoHouse, "pen")
        # The name goes ahead of the fresh one, both ahead of a LOT that isn't there.
        self.refused(keeper, "cut", ("pen", "mother", None), NoHouse, "pen")
        self.refused(keeper, "cut", ("mother", "mother", LOT), NoHouse, "mother")
        self.refused(keeper, "cut", ("mother", "mother", ((9,), ((),), 0)), NoHouse, "mother")
        keeper.cut("mother", "cup", LOT)
        self.refused(keeper, "cut", ("mother", "cup", LOT), NoHouse, "cup")

    def test_lot(self):
        keeper = Keeper(WIDE, ((0,), ((3, 3, 2),), 0, (), 1, 0))
        for lot in (
            ((1,), ((),), 0), ((0,), ((3, 3, 3),), 0), ((0,), ((1,),), 0), ((0,), ((3,),), 1), ((0,), ((3,), ()), 0),
            ((0, 0), ((), ()), 0), ((2,), ((3,),), 0), ((0,), ((2, 3),), 0), (), (1, 2, 3), ((True,), ((3,),), 0),
        ):
            error = self.refused(keeper, "cut", ("mother", "cup", lot), NoDeed, ("cut", "mother", "cup", lot), "lot")
            self.assertIs(error.deed[3], lot)

    def test_not_safe(self):
        keeper = Keeper(WIDE, full_stand(WIDE))
        for lot in (
            # The DAUGHTER isn't SAFE, or what is LEFT.
            NONE, ((1,), ((),), 0), ((0,), ((3, 3, 3, 3),), 0), ((1,), ((3, 3, 3, 3),), 0),
        ):
            self.refused(keeper, "cut", ("mother", "cup", lot), NoKeep, ("cut", "mother", "cup", lot))

    def test_safe_is_enough(self):
        # One leaf is LEFT, which isn't KEPT at the beginning of a beat; but it is SAFE, as it can be copied at once.
        lot = ((0,), ((3, 3, 3),), 0)
        left = left_of(WIDE, full_stand(WIDE), lot)
        self.assertEqual((is_kept(WIDE, left), is_safe(WIDE, left)), (False, True))
        self.assertIs(may_cut(WIDE, full_stand(WIDE), lot), False)
        keeper = Keeper(WIDE, full_stand(WIDE))
        keeper.cut("mother", "cup", lot)
        self.assertIs(keeper.may_beat(), False)
        self.refused(keeper, "beat", (), NoKeep, BEAT)
        keeper.do("mother", ("copy", "a", 3))
        keeper.beat()

    def test_amid_a_beat(self):
        keeper = Keeper(WIDE, full_stand(WIDE))
        keeper.do("mother", ("copy", "a", 3))
        self.refused(keeper, "cut", ("mother", "cup", NONE), NoKeep, ("cut", "mother", "cup", NONE))
        self.assertEqual(keeper.cut("mother", "cup", LOT), ((0,), ((3,),), 0, (), 1, 4))
        self.assertEqual(keeper.stand_of("mother"), ((1,), ((3, 3, 2),), 0, ((("leaf", "a", 2), 1),), 1, 0))
        keeper.beat()
        self.assertEqual(keeper.stand_of("mother"), ((1,), ((3, 3, 2, 2),), 0, (), 1, 0))
        # A fresh house rests as long as the FOE does, whatever the mother's rest.
        self.assertEqual(keeper.cut("mother", "pen", ((0,), ((2,),), 0)), ((0,), ((2,),), 0, (), 1, 4))
        self.assertEqual(keeper.stand_of("cup")[5], 3)
        self.assertEqual(keeper.names(), ("mother", "cup", "pen"))

    def test_of_a_daughter(self):
        keeper = Keeper(WIDE, full_stand(WIDE))
        keeper.cut("mother", "cup", LOT)
        self.refused(keeper, "cut", ("cup", "pen", LOT), NoKeep, ("cut", "cup", "pen", LOT))
        keeper.do("cup", ("copy", "a", 3))
        keeper.beat()
        lot = ((0,), ((2,),), 0)
        self.assertEqual(keeper.cut("cup", "pen", lot), ((0,), ((2,),), 0, (), 1, 4))
        self.assertEqual(keeper.stand_of("cup"), ((0,), ((2,),), 0, (), 1, 3))
        self.assertEqual(str(keeper), "mother,cup,pen 1")
        self.assertEqual(keeper.rows_of("pen"), (("cut", "cup", "pen", lot),))


class Give(Case):
    def pair(self, plant=WIDE, lot=LOT):
        keeper = Keeper(plant, full_stand(plant))
        keeper.cut("mother", "cup", lot)
        return keeper

    def test_given(self):
        keeper = self.pair()
        lot = ((1,), ((3,),), 0)
        self.assertEqual(keeper.give(name="mother", other="cup", lot=lot), ((1,), ((3, 3),), 0, (), 1, 4))
        self.assertEqual(keeper.stand_of("cup"), ((1,), ((3, 3),), 0, (), 1, 4))
        self.assertEqual(keeper.stand_of("mother"), ((0,), ((3, 3),), 0, (), 1, 0))
        self.assertEqual(keeper.log()[-1], ("give", "mother", "cup", lot))
        self.assertEqual(keeper.rows_of("mother")[-1], ("give", "mother", "cup", lot))
        self.assertEqual(keeper.rows_of("cup")[-1], ("give", "mother", "cup", lot))

    def test_both_are_closed(self):
        keeper = self.pair()
        keeper.beat()
        self.assertEqual((keeper.is_open("mother"), keeper.is_open("cup")), (True, True))
        keeper.give("mother", "cup", NONE)
        self.assertEqual((keeper.is_open("mother"), keeper.is_open("cup")), (False, False))

    def test_above_the_bounds(self):
        keeper = self.pair()
        # Uses are no more than 1; of the leaves the last of the row go, where there are more than sheets.
        keeper.give("mother", "cup", ((1,), ((),), 0))
        self.assertEqual((keeper.stand_of("mother")[0], keeper.stand_of("cup")[0]), ((0,), (1,)))
        keeper.do("mother", ("make", "a", 3))
        keeper.beat()
        self.assertEqual(keeper.stand_of("mother")[0], (1,))
        keeper.give("mother", "cup", ((1,), ((),), 0))
        self.assertEqual((keeper.stand_of("mother")[0], keeper.stand_of("cup")[0]), ((0,), (1,)))

    def test_leaves_above_sheets(self):
        keeper = Keeper(WIDE, full_stand(WIDE))
        keeper.cut("mother", "cup", ((0,), ((3, 3),), 0))
        keeper.do("cup", ("copy", "a", 3))
        keeper.do("cup", ("copy", "a", 3))
        keeper.beat()
        self.assertEqual(keeper.stand_of("cup")[1], ((2, 2, 2, 2),))
        # The bright one that is given comes in, the last of the row goes.
        self.assertEqual(keeper.give("mother", "cup", LOT)[1], ((3, 2, 2, 2),))
        self.assertEqual(keeper.stand_of("mother")[1], ((3,),))
        self.assertEqual(keeper.give("cup", "mother", ((0,), ((2, 2),), 0))[1], ((3, 2, 2),))
        self.assertEqual(keeper.give("cup", "mother", ((0,), ((2,),), 0))[1], ((3, 2, 2, 2),))
        self.assertEqual(keeper.give("mother", "cup", ((0,), ((2, 2, 2),), 0))[1], ((3, 2, 2, 2),))
        lot = ((0,), ((3, 2, 2),), 0)
        self.assertEqual(keeper.give("cup", "mother", lot)[1], ((3, 3, 2, 2),))
        # What is given where there is no room is gone.
        self.assertEqual(keeper.stand_of("cup")[1], ((2,),))
        self.assertEqual(keeper.give("mother", "cup", ((0,), ((),), 0))[1], ((2,),))

    def test_no_house(self):
        keeper = self.pair()
        self.refused(keeper, "give", ("pen", "cup", LOT), NoHouse, "pen")
        self.refused(keeper, "give", ("pen", "house", LOT), NoHouse, "pen")
        self.refused(keeper, "give", ("pen", "pen", LOT), NoHouse, "pen")
        self.refused(keeper, "give", ("mother", "house", ((9,), ((),), 0)), NoHouse, "house")

    def test_self(self):
        keeper = self.pair()
        for name in ("mother", "cup"):
            for lot in (LOT, ((9,), ((),), 0), NONE):
                error = self.refused(keeper, "give", (name, name, lot), NoDeed, ("give", name, name, lot), "self")
                self.assertIs(error.deed[3], lot)

    def test_lot(self):
        keeper = self.pair()
        for lot in (((0,), ((2,),), 0), ((0,), ((3, 3, 3, 3),), 0), ((2,), ((),), 0), ((0,), ((3,),), 1), ((0,), (), 0)):
            self.refused(keeper, "give", ("mother", "cup", lot), NoDeed, ("give", "mother", "cup", lot), "lot")

    def test_not_safe(self):
        keeper = self.pair()
        for lot in (((0,), ((3, 3, 3),), 0), ((1,), ((3, 3, 3),), 0)):
            self.refused(keeper, "give", ("mother", "cup", lot), NoKeep, ("give", "mother", "cup", lot))
        lot = ((0,), ((3,),), 0)
        self.refused(keeper, "give", ("cup", "mother", lot), NoKeep, ("give", "cup", "mother", lot))

    def test_a_void_lot(self):
        keeper = self.pair()
        ahead = keeper.stand_of("mother"), keeper.stand_of("cup")
        self.assertEqual(keeper.give("cup", "mother", NONE), ahead[0])
        self.assertEqual((keeper.stand_of("mother"), keeper.stand_of("cup")), ahead)


class TwoKinds(Case):
    def test_deeds(self):
        keeper = Keeper(TWINS, ((1, 1), ((2, 2), (2, 2)), 0, (), 1, 0))
        keeper.strike("mother", ("leaf", "a", 2))
        for deed in (("make", "b", 2), ("copy", "a", 2)):
            self.assertIn(deed, keeper.may("mother"))
            keeper.do("mother", deed)
        self.assertEqual(keeper.beat(), (("mother", (("leaf", "a"), ("tool", "b"))),))
        self.assertEqual(keeper.stand_of("mother"), ((0, 1), ((1, 1), (2, 1)), 0, (), 1, 4))
        lot = ((0, 1), ((1,), (1,)), 0)
        self.refused(keeper, "cut", ("mother", "cup", lot), NoKeep, ("cut", "mother", "cup", lot))
        self.refused(keeper, "do", ("mother", ("make", "b", 2)), NoDeed, ("make", "b", 2), "tool")


class Apart(unittest.TestCase):
    def test_two_have_nothing_in_common(self):
        one, other = Keeper(SMALL, full_stand(SMALL)), Keeper(SMALL, full_stand(SMALL))
        ahead = looks_of(other), other.may("mother")
        one.do("mother", ("make", "a", 2))
        one.beat()
        self.assertEqual((looks_of(other), other.may("mother")), ahead)
        self.assertEqual(other.counts(), (0, 0))
        self.assertEqual(one.counts(), (2, 2))

    def test_nothing_handed_in_is_changed(self):
        rows = [("do", "mother", ("make", "a", 2)), BEAT]
        keeper = Keeper(SMALL, full_stand(SMALL))
        keeper.do_all(rows)
        rows.append(None)
        self.assertEqual(len(keeper.log()), 3)
        self.assertEqual(rows, [("do", "mother", ("make", "a", 2)), BEAT, None])

    def test_strike_behind_a_refused_deed(self):
        # What is refused doesn't close a house.
        keeper = Keeper(SMALL, full_stand(SMALL))
        self.assertIsNotNone(refusal(keeper.do, "mother", ("make", "a", 1)))
        self.assertIsNotNone(refusal(keeper.cut, "mother", "cup", NONE))
        self.assertIs(keeper.is_open("mother"), True)
        keeper.strike("mother", ("leaf", "a", 2))


if __name__ == "__main__":
    unittest.main()
