"""Points [8], [70] to [76], [78]: long drawn rows, against a KEEPER told in the plainest way."""

import unittest

from handsmade.errors import HandsError
from handsmade.keeper import Keeper
from handsmade.order import is_no_less
from handsmade.replaying import replayed
from handsmade.standchecker import is_right_stand
from handsmade.stands import full_stand
from keeperwalks import BEAT, act, some_row
from plainkeeper import PlainKeeper, is_kept, is_safe, looks_of
from samples import ASKED, DRIPS, NEEDY, SLOW, SMALL, STUFF, TAKING, WIDE, refusal
from walks import numbers


class Walks(unittest.TestCase):
    def walk(self, plant, seed, many):
        """Rows done, or refused, as the plainest KEEPER tells; how often each was."""
        chance = numbers(seed)
        keeper = Keeper(plant, full_stand(plant))
        plain = PlainKeeper(plant, full_stand(plant))
        seen = {}
        for step in range(many):
            row = some_row(keeper, plant, chance)
            why = plain.why_not(row)
            if why is None:
                self.assertEqual(act(keeper, row), plain.act(row), (step, row))
            else:
                try:
                    act(keeper, row)
                    self.fail((step, row, why))
                except HandsError as error:
                    name = error.__class__.__name__
                    self.assertEqual((name, *vars(error).values()), why, (step, row))
            word = row[0] if why is None else row[0] + " " + why[0] + (" " + why[2] if why[0] == "NoDeed" else "")
            seen[word] = seen.get(word, 0) + 1
            self.assertEqual(looks_of(keeper), plain.looks(), (step, row))
            self.assertEqual(keeper.counts(), (step + 1, step + 1))
            self.always(plant, keeper, plain, row if why is None else None)
        self.assertEqual(looks_of(replayed(keeper.log())), plain.looks())
        self.assertEqual(replayed(keeper.log()), keeper)
        return seen

    def always(self, plant, keeper, plain, row):
        """[72], (M1), (M3): what is so behind each row."""
        for name in keeper.names():
            stand = keeper.stand_of(name)
            self.assertTrue(is_right_stand(plant, stand))
            self.assertTrue(is_safe(plant, stand))
            if row == BEAT:
                self.assertTrue(is_kept(plant, stand))
            begun, sprung, had, sent, ash, struck, there = keeper.ledger(name)
            self.assertEqual(begun + sprung + had, sent + ash + struck + there)
        ready = plain.why_not(BEAT) is None
        self.assertIs(keeper.may_beat(), ready)
        told = {name: keeper.may(name) for name in keeper.names()}
        self.assertTrue(ready or any(told.values()), plain.log)
        for name in keeper.names():
            self.assertEqual(told[name], plain.may(name))

    def test_of_one_kind(self):
        seen = {}
        for plant, seed, many in (
            (SMALL, 1, 150), (SMALL, 2, 150), (WIDE, 3, 250), (WIDE, 4, 250), (WIDE, 11, 250), (ASKED, 5, 250),
            (DRIPS, 6, 250),
            (DRIPS, 7, 150), (SLOW, 8, 250), (NEEDY, 9, 250), (STUFF, 12, 150), (TAKING, 14, 200),
        ):
            for word, many_times in self.walk(plant, seed, many).items():
                seen[word] = seen.get(word, 0) + many_times
        self.assertGreaterEqual(set(seen), {
            "do", "beat", "strike", "cut", "give", "do NoHouse", "do NoKeep", "do NoDeed bench", "do NoDeed leaf",
            "do NoDeed making", "do NoDeed tool", "do NoDeed stuff", "beat NoKeep", "strike NoDeed late",
            "strike NoDeed rest", "strike NoDeed gone", "cut NoHouse", "cut NoDeed lot", "cut NoKeep", "give NoHouse",
            "give NoDeed self", "give NoDeed lot", "give NoKeep",
        }, seen)

    def test_a_lot_given_never_harms(self):
        """[72]: more never harms who is given, but that leaves may go for want of sheets."""
        chance = numbers(77)
        given = 0
        for seed in range(4):
            keeper = Keeper(WIDE, full_stand(WIDE))
            keeper.cut("mother", "cup", ((0,), ((3,),), 0))
            for _ in range(60):
                row = some_row(keeper, WIDE, chance)
                ahead = keeper.stand_of(row[2]) if row[0] == "give" and keeper.has(row[2]) else None
                if refusal(act, keeper, row) is None and row[0] == "give":
                    self.assertTrue(is_no_less(keeper.stand_of(row[2]), ahead), row)
                    given += 1
        self.assertGreater(given, 3)


if __name__ == "__main__":
    unittest.main()
