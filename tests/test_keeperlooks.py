"""Points [73] to [78]: looks at a KEEPER, what is taken back, done in one, and done anew from a LOG."""

import unittest

from handsmade.errors import NoBack, NoDeed, NoHouse, NoKeep
from handsmade.keeper import Keeper
from handsmade.ledger import ledger_of
from handsmade.replaying import replayed
from handsmade.stands import full_stand
from keeperwalks import act, some_row
from plainkeeper import looks_of, replayed_plain
from samples import ASKED, BIG, DRIPS, NEEDY, ODD, SLOW, SMALL, STUFF, TAKING, WIDE, changed, refusal
from walks import numbers

BEAT = ("beat",)
LOT = ((0,), ((3,),), 0)
ROWS = (
    ("strike", "mother", ("leaf", "a", 3)), ("do", "mother", ("copy", "a", 3)), BEAT, ("cut", "mother", "cup", LOT),
    ("do", "cup", ("copy", "a", 3)), ("give", "mother", "cup", ((1,), ((2,),), 0)), BEAT,
    ("do", "mother", ("make", "a", 3)), BEAT,
)


def wide(rows=ROWS):
    keeper = Keeper(WIDE, full_stand(WIDE))
    for row in rows:
        act(keeper, row)
    return keeper


class Looks(unittest.TestCase):
    def test_by_hand(self):
        keeper = wide()
        self.assertEqual(keeper.names(), ("mother", "cup"))
        self.assertEqual(len(keeper), 2)
        self.assertEqual(str(keeper), "mother,cup 3")
        self.assertEqual(keeper.works_now(), WIDE)
        self.assertEqual(keeper.log(), (("keeper", WIDE, full_stand(WIDE)),) + ROWS)
        self.assertEqual(keeper.stand_of("mother"), ((1,), ((2, 2),), 0, (), 1, 1))
        self.assertEqual(keeper.stand_of("cup"), ((1,), ((2, 2, 2),), 0, (), 1, 2))
        self.assertEqual(keeper.came("mother"), ((("leaf", "a"),), (), (("tool", "a"),)))
        self.assertEqual(keeper.came("cup"), ((("leaf", "a"),), ()))
        self.assertEqual(keeper.rows_of("mother"), ROWS[:4] + ROWS[5:])
        self.assertEqual(keeper.rows_of("cup"), ROWS[3:7] + ROWS[8:])
        for told in (keeper.names(), keeper.log(), keeper.came("cup"), keeper.rows_of("cup"), keeper.may("cup"),
                     keeper.ledger("cup"), keeper.counts()):
            self.assertIs(told.__class__, tuple)

    def test_by_names(self):
        keeper = wide()
        self.assertEqual(keeper.stand_of(name="cup"), keeper.stand_of("cup"))
        self.assertIs(keeper.is_open(name="cup"), True)
        self.assertEqual(keeper.came(name="cup"), keeper.came("cup"))
        self.assertEqual(keeper.rows_of(name="cup"), keeper.rows_of("cup"))
        self.assertEqual(keeper.ledger(name="cup"), keeper.ledger("cup"))
        self.assertEqual(keeper.may(name="cup"), keeper.may("cup"))
        self.assertIs(keeper.has(thing="cup"), True)

    def test_has(self):
        keeper = wide()
        for thing in ODD + ["mothers", "Mother", "mother ", ("mother",), ["mother"], "", keeper.names(), BIG]:
            self.assertIs(keeper.has(thing), False, thing)
        self.assertIs(keeper.has("mother"), True)
        self.assertIs(keeper.has("cup"), True)
        self.assertIs(Keeper(WIDE, full_stand(WIDE)).has("cup"), False)

    def test_no_house(self):
        keeper = wide()
        for look in (keeper.stand_of, keeper.is_open, keeper.came, keeper.rows_of, keeper.ledger, keeper.may):
            for name in ("pen", "a", "house"):
                with self.assertRaises(NoHouse) as caught:
                    look(name)
                self.assertIs(caught.exception.name, name)
        self.assertEqual(keeper.counts(), (len(ROWS), len(ROWS)))

    def test_looks_change_nothing(self):
        keeper = wide()
        ahead = looks_of(keeper)
        keeper.may("mother"), keeper.may_beat(), keeper.has("x"), keeper.counts()
        self.assertEqual(looks_of(keeper), ahead)

    def test_open_ahead_of_all(self):
        keeper = Keeper(WIDE, full_stand(WIDE))
        told = []
        for row in ROWS:
            act(keeper, row)
            told.append([keeper.is_open(name) for name in keeper.names()])
        self.assertEqual(told, [
            [False], [False], [True], [False, False], [False, False], [False, False], [True, True], [False, True],
            [True, True],
        ])


class May(unittest.TestCase):
    def test_against_trying_each(self):
        for plant in (SMALL, ASKED, DRIPS, SLOW, NEEDY):
            chance = numbers(5)
            keeper = Keeper(plant, full_stand(plant))
            for _ in range(25):
                told = refusal(act, keeper, some_row(keeper, plant, chance))
                for name in keeper.names():
                    may = keeper.may(name)
                    self.assertEqual(may, tuple(sorted(may)))
                    for deed in may:
                        self.assertIsNone(refusal(keeper.do, name, deed))
                        keeper.back()
                ready = keeper.may_beat()
                told = refusal(keeper.beat)
                self.assertEqual(told, None if ready else ("NoKeep", BEAT))
                if told is None:
                    keeper.back()
                self.assertTrue(ready or any(keeper.may(name) for name in keeper.names()))


class Ledgers(unittest.TestCase):
    def test_by_hand(self):
        keeper = Keeper(STUFF, ((0,), ((3, 3, 2),), 3, (), 2, 0))
        self.assertEqual(keeper.ledger("mother"), (3, 0, 0, 0, 0, 0, 3))
        keeper.strike("mother", ("stuff",))
        self.assertEqual(keeper.ledger("mother"), (3, 0, 0, 0, 0, 1, 2))
        keeper.cut("mother", "cup", ((0,), ((3,),), 1))
        self.assertEqual(keeper.ledger("mother"), (3, 0, 0, 1, 0, 1, 1))
        self.assertEqual(keeper.ledger("cup"), (1, 0, 0, 0, 0, 0, 1))
        keeper.beat()
        self.assertEqual(keeper.ledger("cup"), (1, 0, 0, 0, 0, 0, 1))
        keeper.beat()
        self.assertEqual(keeper.ledger("mother"), (3, 2, 0, 1, 0, 1, 3))
        self.assertEqual(keeper.ledger("cup"), (1, 2, 0, 0, 0, 0, 3))
        # A making of a tool takes two grains, which are there; of those one comes back, one is ash.
        keeper.do("mother", ("make", "a", 3))
        self.assertEqual(keeper.ledger("mother"), (3, 2, 0, 1, 0, 1, 3))
        keeper.beat()
        self.assertEqual(keeper.ledger("mother"), (3, 2, 0, 1, 1, 1, 2))
        # What is given over the bound of the store is ash of the one that has it.
        keeper.give("mother", "cup", ((1,), ((),), 1))
        self.assertEqual(keeper.ledger("mother"), (3, 2, 0, 2, 1, 1, 1))
        self.assertEqual(keeper.ledger("cup"), (1, 2, 1, 0, 1, 0, 3))
        keeper.do("cup", ("copy", "a", 3))
        keeper.beat()
        # What springs over it, too.
        self.assertEqual(keeper.ledger("cup"), (1, 4, 1, 0, 3, 0, 3))
        self.assertEqual(keeper.ledger("mother"), (3, 4, 0, 2, 1, 1, 3))
        # What is broken is ash, all it took.
        keeper.do("mother", ("make", "a", 2))
        keeper.do("mother", ("break", 0))
        self.assertEqual(keeper.ledger("mother"), (3, 4, 0, 2, 3, 1, 1))
        keeper.back(times=len(keeper.log()) - 1)
        self.assertEqual(keeper.ledger("mother"), (3, 0, 0, 0, 0, 0, 3))

    def test_of_makings_at_first_and_struck(self):
        # A bright leaf's making took what AGREEING takes, another one's what COPYING does, whatever it came of.
        for makings, took in (
            (((("leaf", "a", 1), 1), (("leaf", "a", 3), 2)), (1, 3)),
            (((("leaf", "a", 3), 1), (("tool", "a"), 1)), (3, 2)),
            (((("leaf", "a", 0), 1), (("leaf", "a", 2), 1)), (1, 1)),
        ):
            keeper = Keeper(TAKING, ((0,), ((3, 3),), 4, makings, 1, 0))
            begun = 4 + sum(took)
            self.assertEqual(keeper.ledger("mother"), (begun, 0, 0, 0, 0, 0, begun))
            for j in (0, 1):
                keeper.strike("mother", ("making", j))
                self.assertEqual(keeper.ledger("mother"), (begun, 0, 0, 0, 0, took[j], begun - took[j]))
                keeper.back()
                keeper.do("mother", ("break", j))
                self.assertEqual(keeper.ledger("mother"), (begun, 0, 0, 0, took[j], 0, begun - took[j]))
                keeper.back()
            # The store is full: all that ENDs and all that springs is ash.
            keeper.beat()
            ended = sum(many for many, (_, left) in zip(took, makings) if left == 1)
            self.assertEqual(keeper.ledger("mother"), (begun, 3, 0, 0, ended + 3, 0, begun - ended))

    def test_of_one_house_it_is_that_of_its_row(self):
        for plant in (ASKED, DRIPS, NEEDY):
            chance = numbers(21)
            keeper = Keeper(plant, full_stand(plant))
            for _ in range(60):
                row = some_row(keeper, plant, chance)
                if row[0] not in ("cut", "give"):
                    refusal(act, keeper, row)
            row = tuple(one if one == BEAT else ("strike", one[2]) if one[0] == "strike" else one[2]
                        for one in keeper.rows_of("mother"))
            begun, sprung, ash, struck, there = ledger_of(plant, full_stand(plant), row)
            self.assertEqual(keeper.ledger("mother"), (begun, sprung, 0, 0, ash, struck, there))
            self.assertGreater(ash + struck, 0)


class Same(unittest.TestCase):
    def test_come_to_by_other_rows(self):
        one = wide((("do", "mother", ("copy", "a", 3)), ("do", "mother", ("make", "a", 3)), BEAT))
        other = wide((("do", "mother", ("make", "a", 3)), ("do", "mother", ("copy", "a", 3)), BEAT))
        self.assertTrue(one == other)
        self.assertFalse(one != other)
        self.assertNotEqual(one.log(), other.log())
        third = Keeper(WIDE, one.stand_of("mother"))
        self.assertTrue(third == one and one == third)

    def test_others(self):
        keeper = Keeper(WIDE, full_stand(WIDE))
        struck = Keeper(WIDE, full_stand(WIDE))
        struck.strike("mother", ("tool", "a"))
        # The same STAND, but not OPEN alike.
        closed = Keeper(WIDE, full_stand(WIDE))
        closed.cut("mother", "cup", LOT)
        closed.give("cup", "mother", ((0,), ((),), 0))
        opened = Keeper(WIDE, struck.stand_of("mother"))
        self.assertEqual(opened.stand_of("mother"), struck.stand_of("mother"))
        for one, other in (
            (keeper, struck), (struck, opened), (keeper, closed), (keeper, Keeper(WIDE, full_stand(WIDE, rest=1))),
            (keeper, Keeper(changed(WIDE, 6, 3), full_stand(WIDE))),
            (keeper, Keeper(changed(WIDE, 5, (2, 4)), full_stand(WIDE))),
        ):
            self.assertTrue(one != other and other != one)
            self.assertFalse(one == other or other == one)

    def test_names_and_their_order(self):
        def cut(*names):
            keeper = Keeper(WIDE, full_stand(WIDE))
            for name in names:
                keeper.cut("mother", name, LOT)
            return keeper

        self.assertTrue(cut("cup", "pen") == cut("cup", "pen"))
        self.assertTrue(cut("cup", "pen") != cut("pen", "cup"))
        self.assertTrue(cut("cup") != cut("pen"))
        self.assertTrue(cut("cup") != cut("cup", "pen"))

    def test_counts_and_logs_are_aside(self):
        one, other = wide(), wide()
        refusal(one.do, "mother", ("make", "b", 1))
        self.assertEqual(one, other)
        self.assertNotEqual(one.counts(), other.counts())
        one.back(times=2)
        one.do_all(ROWS[-2:])
        self.assertEqual(one, other)

    def test_any_thing(self):
        keeper = wide()
        for thing in ODD + [keeper.log(), keeper.names(), str(keeper), [keeper], (keeper,), Keeper, looks_of(keeper)]:
            self.assertIs(keeper == thing, False)
            self.assertIs(keeper != thing, True)
            self.assertIs(thing == keeper, False)
            self.assertIs(thing != keeper, True)
        self.assertIs([keeper] == [wide()], True)
        self.assertIs([keeper] != [wide(())], True)
        self.assertIn(wide(), [None, keeper])
        self.assertIs(keeper == keeper, True)


class Back(unittest.TestCase):
    def test_one_by_one(self):
        keeper = wide()
        looks = [replayed_plain(WIDE, full_stand(WIDE), ROWS[:k]).looks() for k in range(len(ROWS))]
        for k in reversed(range(len(ROWS))):
            self.assertEqual(keeper.back(), (ROWS[k],))
            self.assertEqual(looks_of(keeper), looks[k])
        self.assertEqual(keeper.counts(), (2 * len(ROWS), 2 * len(ROWS)))

    def test_several(self):
        for times in range(1, len(ROWS) + 1):
            keeper = wide()
            told = keeper.back(times=times)
            self.assertEqual(told, ROWS[::-1][:times])
            self.assertIs(told.__class__, tuple)
            self.assertEqual(looks_of(keeper), replayed_plain(WIDE, full_stand(WIDE), ROWS[:-times]).looks())
            self.assertEqual(keeper.counts(), (len(ROWS) + 1, len(ROWS) + 1))
            # And done again.
            self.assertEqual(keeper.do_all(told[::-1]), times)
            self.assertEqual(keeper, wide())
            self.assertEqual(looks_of(keeper), looks_of(wide()))

    def test_refused(self):
        keeper = wide()
        ahead = looks_of(keeper)
        for k, times in enumerate(ODD + [0, -1, len(ROWS) + 1, BIG, True, False, None, "1", (1,), [1], -BIG, keeper]):
            if times == 1 and times is not True or times == 2:
                continue
            with self.assertRaises(NoBack) as caught:
                keeper.back(times=times)
            self.assertIs(caught.exception.times, times)
            self.assertEqual(looks_of(keeper), ahead)
        fresh = Keeper(WIDE, full_stand(WIDE))
        self.assertEqual(refusal(fresh.back), ("NoBack", 1))
        self.assertEqual(fresh.counts(), (1, 1))
        with self.assertRaises(TypeError):
            fresh.back(1)

    def test_open_again(self):
        keeper = Keeper(WIDE, full_stand(WIDE))
        keeper.do("mother", ("copy", "a", 3))
        self.assertIs(keeper.is_open("mother"), False)
        keeper.back()
        self.assertIs(keeper.is_open("mother"), True)
        keeper.strike("mother", ("leaf", "a", 3))
        keeper.back(times=1)
        self.assertEqual(keeper, Keeper(WIDE, full_stand(WIDE)))


class DoAll(unittest.TestCase):
    def test_rows(self):
        for rows in (ROWS, list(ROWS), ROWS[:1], [], ()):
            keeper = Keeper(WIDE, full_stand(WIDE))
            self.assertEqual(keeper.do_all(rows), len(rows))
            self.assertEqual(looks_of(keeper), looks_of(wide(rows)))
            self.assertEqual(keeper.counts(), (1, 1))
        self.assertEqual(Keeper(WIDE, full_stand(WIDE)).do_all(rows=list(ROWS), keep=True), len(ROWS))

    def test_each_is_one_row_of_the_log(self):
        keeper = Keeper(WIDE, full_stand(WIDE))
        keeper.do_all(ROWS)
        self.assertEqual(keeper.back(times=2), ROWS[:-3:-1])
        self.assertEqual(looks_of(keeper), looks_of(wide(ROWS[:-2])))

    def test_refused_in_the_midst(self):
        for bad, told in (
            (("do", "pen", ("copy", "a", 3)), ("NoHouse", "pen")),
            (("do", "cup", ("make", "b", 3)), ("NoDeed", ("make", "b", 3), "kind")),
            (("strike", "cup", ("stuff",)), ("NoDeed", ("stuff",), "late")),
            (("cut", "mother", "cup", LOT), ("NoHouse", "cup")),
            (("give", "mother", "mother", LOT), ("NoDeed", ("give", "mother", "mother", LOT), "self")),
            (("cut", "mother", "pen", ((0,), ((),), 0)), ("NoKeep", ("cut", "mother", "pen", ((0,), ((),), 0)))),
        ):
            keeper = wide(ROWS[:1])
            ahead = looks_of(keeper)
            for rows in (ROWS[1:6] + (bad,) + ROWS[6:], list(ROWS[1:6]) + [bad]):
                self.assertEqual(refusal(keeper.do_all, rows), told)
                self.assertEqual(looks_of(keeper), ahead)
            self.assertEqual(refusal(keeper.do_all, rows, keep=False), told)
            self.assertEqual(looks_of(keeper), ahead)
            self.assertEqual(keeper.counts(), (4, 4))
            # Where it is told so those ahead of it stay.
            self.assertEqual(refusal(keeper.do_all, rows, keep=True), told)
            self.assertEqual(looks_of(keeper), looks_of(wide(ROWS[:6])))
            self.assertEqual(keeper.counts(), (5, 5))

    def test_the_very_rows(self):
        bad = ("cut", "mother", "pen", ((9,), ((),), 0))
        keeper = Keeper(WIDE, full_stand(WIDE))
        with self.assertRaises(NoDeed) as caught:
            keeper.do_all([BEAT, bad])
        self.assertEqual(caught.exception.deed, bad)
        keeper = wide(ROWS[:4] + (BEAT, BEAT, BEAT))
        with self.assertRaises(NoKeep) as caught:
            keeper.do_all([("do", "mother", ("copy", "a", 3)), BEAT])
        self.assertEqual(caught.exception.deed, BEAT)
        self.assertEqual(looks_of(keeper), looks_of(wide(ROWS[:4] + (BEAT, BEAT, BEAT))))

    def test_by_its_name_alone(self):
        with self.assertRaises(TypeError):
            Keeper(WIDE, full_stand(WIDE)).do_all((), True)


class Counts(unittest.TestCase):
    def test_counts(self):
        keeper = Keeper(WIDE, full_stand(WIDE))
        told = [keeper.counts()]
        for deed in (
            lambda: keeper.do("mother", ("copy", "a", 3)), lambda: keeper.do("pen", ("copy", "a", 3)), keeper.beat,
            lambda: keeper.strike("mother", ("stuff",)), lambda: keeper.cut("mother", "mother", LOT),
            lambda: keeper.give("mother", "pen", LOT), lambda: keeper.back(times=2), lambda: keeper.back(times=0),
            lambda: keeper.do_all(ROWS), lambda: keeper.do_all([BEAT, ("do", "x", ("break", 0))]),
        ):
            refusal(deed)
            told.append(keeper.counts())
        self.assertEqual(told, [(k, k) for k in range(11)])


class Replayed(unittest.TestCase):
    def test_of_a_log(self):
        for k in range(len(ROWS) + 1):
            keeper = wide(ROWS[:k])
            told = replayed(keeper.log())
            self.assertEqual(told, keeper)
            self.assertEqual(looks_of(told), looks_of(keeper))
            self.assertEqual([told.may(name) for name in told.names()], [keeper.may(name) for name in keeper.names()])
            self.assertIs(told.may_beat(), keeper.may_beat())
            self.assertIs(told.__class__, Keeper)
        self.assertEqual(looks_of(replayed(log=wide().log())), looks_of(wide()))

    def test_of_a_part_of_a_log(self):
        log = wide().log()
        for k in range(1, len(log) + 1):
            self.assertEqual(replayed(log[:k]), wide(ROWS[:k - 1]))

    def test_behind_what_was_refused_and_taken_back(self):
        keeper = wide()
        refusal(keeper.do, "mother", ("make", "b", 1))
        keeper.back(times=4)
        keeper.do("cup", ("make", "a", 2))
        self.assertEqual(looks_of(replayed(keeper.log())), looks_of(keeper))

    def test_first_refusal(self):
        log = wide().log()
        self.assertEqual(refusal(replayed, (("keeper", WIDE, ((0,), ((),), 0, (), 1, 0)),) + log[1:]), ("NoKeep", None))
        bad = (("keeper", WIDE, ((0,), ((),), 0, (), 1, 0)), ("do", "pen", ("break", 0)))
        self.assertEqual(refusal(replayed, bad), ("NoKeep", None))
        self.assertEqual(refusal(replayed, log + (("do", "pen", ("break", 0)),)), ("NoHouse", "pen"))
        self.assertEqual(refusal(replayed, log[:2] + log[3:]), refusal(wide, log[1:2] + log[3:]))
        self.assertIsNotNone(refusal(replayed, log[:4] + log[5:]))

    def test_nothing_in_common(self):
        keeper = wide()
        told = replayed(keeper.log())
        ahead = looks_of(keeper)
        told.back(times=3)
        told.beat()
        self.assertEqual(looks_of(keeper), ahead)


if __name__ == "__main__":
    unittest.main()
