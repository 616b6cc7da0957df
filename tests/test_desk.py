"""Points [79], [80], [81]: a desk."""

import unittest

from handsmade.acts import is_deed, is_strike
from handsmade.deedtexts import deed_read, deed_text, good_text, lot_read, strike_read
from handsmade.desk import Desk
from handsmade.errors import HandsError, NoLine
from handsmade.keeper import Keeper
from handsmade.replaying import replayed
from handsmade.stands import full_stand
from handsmade.standtexts import stand_text
from handsmade.workstexts import works_text
from keeperwalks import some_row
from plain import deed_list, strike_list
from plainkeeper import looks_of
from samples import ASKED, DRIPS, PLANT, SMALL, STUFF, TAKING, TWINS, WIDE, refusal
from walks import numbers

BEAT = ("beat",)


def opened(plant, stand=None):
    return "open\n" + stand_text(stand or full_stand(plant)) + "\n" + works_text(plant)


def desk_of(plant, stand=None, *rows):
    desk = Desk()
    desk.say(opened(plant, stand))
    for row in rows:
        desk.say(row)
    return desk


def lot_text(lot):
    uses, leaves, store = lot
    groups = [",".join(map(str, lights)) or "-" for lights in leaves]
    return ",".join(map(str, uses)) + " " + ";".join(groups) + " " + str(store)


def row_text(row):
    """A row of a LOG as a desk is told it."""
    word, *rest = row
    if word == "beat":
        return "beat"
    if word in ("cut", "give"):
        return " ".join([word, *rest[:2], lot_text(rest[2])])
    parts = [",".join(map(str, part)) if part.__class__ is tuple else str(part) for part in rest[1]]
    return " ".join([word, rest[0], *parts])


class Case(unittest.TestCase):
    def refused(self, desk, row, *told):
        """It is refused so; it was begun and ended; all it tells is as it was."""
        begun, ended = desk.counts()
        ahead = [desk.say(look) for look in ("names", "ready", "stand mother",
                                             "came mother")] if told[0] != "first" else None
        told = told[1:] if told[0] == "first" else told
        with self.assertRaises(HandsError) as caught:
            desk.say(row)
        error = caught.exception
        self.assertEqual((error.__class__.__name__, *vars(error).values()), told, row)
        many = 1 if ahead is None else 5
        self.assertEqual(desk.counts(), (begun + many, ended + many))
        if ahead is not None:
            self.assertEqual([desk.say(look) for look in ("names", "ready", "stand mother", "came mother")], ahead)
        return error

    def no_line(self, desk, *rows):
        for row in rows:
            error = self.refused(desk, row, "NoLine", row)
            self.assertIs(error.line, row)


class Words(unittest.TestCase):
    def test_deeds(self):
        for deed, text in (
            (("make", "a", 2), "make a 2"), (("copy", "pen", 10), "copy pen 10"),
            (("agree", "a", (1, 0, 0)), "agree a 1,0,0"),
            (("break", 0), "break 0"), (("break", 12), "break 12"),
        ):
            self.assertEqual(deed_text(deed), text)
            self.assertEqual(deed_read(text.split(" ")), deed)
        for plant in (PLANT, SMALL, ASKED):
            for deed in deed_list(plant):
                self.assertEqual(deed_read(deed_text(deed).split(" ")), deed)

    def test_goods(self):
        self.assertEqual((good_text(("tool", "a")), good_text(("leaf", "pen"))), ("tool.a", "leaf.pen"))

    def test_strikes(self):
        for strike in strike_list(PLANT):
            self.assertEqual(strike_read([str(part) for part in strike]), strike)

    def test_lots(self):
        for lot in (((2, 0), ((2, 1), ()), 3), ((0,), ((),), 0), ((1, 2, 3), ((1,),), 12),
                    ((0,), ((0,), (5, 5), ()), 999999999999)):
            self.assertEqual(lot_read(lot_text(lot).split(" ")), lot)

    def test_none(self):
        for words in ([], [""], ["make"], ["make", "a"], ["make", "a", "2", "3"], ["make", "a", "2,1"],
                      ["agree", "a", "1"],
                      ["agree", "a", "0,1"], ["agree", "a", ""], ["break", "a", "0"], ["break", "x"],
                      ["a", "make", "1"]):
            self.assertIsNone(deed_read(words), words)
        for words in ([], [""], ["stuff", "1"], ["tool"], ["leaf", "a"], ["leaf", "a", "x"], ["making"],
                      ["making", "a"],
                      ["making", "a", "0"], ["tool", "a", "0"], ["stuffs"], ["leaf", "a", "1", "2"]):
            self.assertIsNone(strike_read(words), words)
        for words in ([], ["0", "-"], ["0", "-", "0", "0"], ["", "-", "0"], ["-", "-", "0"], ["0", "", "0"],
                      ["0", "-", "-"],
                      ["0", "1,2", "0"], ["0", "-;", "0"], ["0,", "-", "0"], ["0", "1;;1", "0"], ["0", "-,1", "0"]):
            self.assertIsNone(lot_read(words), words)

    def test_what_is_read_is_by_kind(self):
        for text in ("make a 2", "copy abcdefgh 0", "agree a 9,0", "break 999999999999"):
            self.assertTrue(is_deed(deed_read(text.split(" "))))
        for text in ("tool a", "leaf b 0", "making 7", "stuff"):
            self.assertTrue(is_strike(strike_read(text.split(" "))))


class Open(Case):
    def test_at_first(self):
        desk = Desk()
        rows = (
            "names", "beat", "ready", "undo", "undo 1", "stand mother", "do mother make a 2", "strike mother stuff",
            "open", "",
            "may mother", "came mother", "ledger mother", "cut mother cup 0 3 0", "give mother cup 0 3 0", "x",
        )
        for row in rows:
            self.refused(desk, row, "first", "NoLine", row)
        self.assertEqual(desk.counts(), (len(rows), len(rows)))

    def test_opened(self):
        for plant in (SMALL, ASKED, DRIPS, TWINS):
            stand = full_stand(plant) if plant != TWINS else ((1, 1), ((2, 2), (2, 2)), 0, (), 1, 0)
            desk = Desk()
            self.assertEqual(desk.say(row=opened(plant, stand)), "ok")
            self.assertEqual(desk.say("names"), "mother")
            self.assertEqual(desk.say("stand mother"), stand_text(stand))
            self.assertEqual(desk.counts(), (3, 3))

    def test_of_no_form(self):
        text = stand_text(full_stand(SMALL))
        for row in (
            "open", "open\n", "open\n" + text, "open " + text + "\n" + works_text(SMALL),
            " open\n" + text + "\n" + works_text(SMALL),
            "open \n" + text + "\n" + works_text(SMALL), "Open\n" + text + "\n" + works_text(SMALL), "\nopen\n" + text,
            "opens\n\n", "\n\n", "names\n\n", text + "\n" + works_text(SMALL),
        ):
            self.refused(Desk(), row, "first", "NoLine", row)
            self.no_line(desk_of(SMALL), row)

    def test_stand_that_cant_be_read(self):
        text = works_text(SMALL)
        for words, word in (
            ("", 0), ("x", 0), ("1", 1), ("1 2.2", 2), ("1 2.2 0 - 1", 5), ("1 2.2 0 - 1 0 0", 6), ("1 2.2 0 - 1 x", 5),
            ("1  0 - 1 0", 1), ("01 2 0 - 1 0", 0), ("1 2.2 0 -  0", 4),
        ):
            for works in (text, "", "x"):
                self.refused(Desk(), "open\n" + words + "\n" + works, "first", "NoText", 1, word)

    def test_works_that_cant_be_read(self):
        stand = stand_text(full_stand(SMALL))
        lines = works_text(SMALL).split("\n")
        self.refused(Desk(), "open\n" + stand + "\n", "first", "NoText", 2, 0)
        for k in range(len(lines)):
            bad = lines[:k] + [lines[k] + " -"] + lines[k + 1:]
            self.refused(Desk(), "open\n" + stand + "\n" + "\n".join(bad), "first", "NoText", k + 2,
                         len(lines[k].split(" ")))
            self.refused(Desk(), "open\n" + stand + "\n" + "\n".join(lines[:k] + ["y"]), "first", "NoText", k + 2, 0)
            if k > 0:
                self.refused(Desk(), "open\n" + stand + "\n" + "\n".join(lines[:k]), "first", "NoText", k + 2, 0)
        self.refused(Desk(), "open\n" + stand + "\n" + works_text(SMALL) + "\n", "first", "NoText", len(lines) + 2, 0)
        # A STAND that writes none goes ahead.
        self.refused(Desk(), "open\n1 x\n" + works_text(SMALL) + "\n", "first", "NoText", 1, 1)

    def test_works_that_is_not_whole(self):
        stand = stand_text(full_stand(SMALL))
        works = works_text(SMALL).replace("kind a 0 1 1 0", "kind a 0 1 1 0 b 1")
        self.refused(Desk(), "open\n" + stand + "\n" + works, "first", "NoWorks", "asks", (0, 0))
        # Ahead of a STAND that isn't RIGHT.
        self.refused(Desk(), "open\n9 2.2 0 - 1 0\n" + works, "first", "NoWorks", "asks", (0, 0))
        works = works_text(SMALL).replace("copying 0 1", "copying 0 1 c 2")
        self.refused(Desk(), "open\n" + stand + "\n" + works, "first", "NoWorks", "copying", 0)

    def test_stand_that_is_not_right(self):
        for text, word, at in (
            ("9 2.2 0 - 1 0", "uses", 0), ("1,1 2.2 0 - 1 0", "uses", -1), ("1 2.3 0 - 1 0", "leaves", 0),
            ("1 2.2 1 - 1 0", "store", -1),
            ("1 1.2 0 - 1 0", "leaves", 0), ("1 2.2 0 - 2 0", "phase", -1), ("1 2.2 0 - 0 0", "phase", -1),
            ("1 2.2 0 - 1 4", "rest", -1),
            ("1 2.2 0 tool.b:1 1 0", "making", 0), ("1 2.2 0 tool.a:0 1 0", "making", 0),
            ("1 2.2 0 tool.a:1,leaf.a.1:1 1 0", "making", 1), ("1 2.2 0 tool.a:1,tool.a:1,tool.a:1 1 0", "benches", -1),
        ):
            self.refused(Desk(), "open\n" + text + "\n" + works_text(SMALL), "first", "NoPaper", word, at)

    def test_stand_that_is_not_kept(self):
        self.refused(Desk(), "open\n1 2.1 0 - 1 0\n" + works_text(SMALL), "first", "NoKeep", None)

    def test_a_new_keeper(self):
        desk = desk_of(SMALL, None, "do mother copy a 2", "beat")
        self.assertEqual(desk.say(opened(WIDE)), "ok")
        self.assertEqual((desk.say("names"), desk.say("came mother"), desk.say("stand mother")),
                         ("mother", "-", "1 3.3.3.3 0 - 1 0"))
        # What is refused leaves the one that is there.
        desk.say("do mother copy a 3")
        for row in ("open\n1 2.1 0 - 1 0\n" + works_text(SMALL), "open\n\n", "open\nx\nx"):
            refusal(desk.say, row)
        self.assertEqual(desk.say("stand mother"), "1 3.3.3.2 0 leaf.a.2:1 1 0")
        self.assertEqual(desk.say("undo"), "0")


class Rows(Case):
    def test_deeds(self):
        desk = desk_of(WIDE)
        for row, stand in (
            ("do mother make a 3", "1 3.3.3.2 0 tool.a:1 1 0"),
            ("do mother copy a 3", "1 3.3.2.2 0 leaf.a.2:1,tool.a:1 1 0"),
            ("do mother break 1", "1 3.3.2.2 0 leaf.a.2:1 1 0"),
            ("do mother agree a 3,2", "1 3.2 0 leaf.a.2:1,leaf.a.3:1 1 0"),
        ):
            self.assertEqual(desk.say(row), "ok")
            self.assertEqual(desk.say("stand mother"), stand)
        self.assertEqual(desk.say("beat"), "mother:leaf.a")
        self.assertEqual(desk.say("beat"), "mother:-")
        self.assertEqual(desk.say("undo 3"), "3")

    def test_beat_of_several(self):
        desk = desk_of(WIDE, None, "cut mother cup 0 3 0", "do mother make a 3", "do mother copy a 3",
                       "do cup make a 3")
        self.assertEqual(desk.say("beat"), "mother:leaf.a,tool.a cup:tool.a")
        self.assertEqual(desk.say("names"), "mother cup")
        self.assertEqual(desk.say("came mother"), "leaf.a,tool.a")
        self.assertEqual(desk.say("beat"), "mother:- cup:-")
        self.assertEqual(desk.say("came cup"), "tool.a | -")
        self.assertEqual(desk.say("came mother"), "leaf.a,tool.a | -")

    def test_strikes(self):
        for row, stand in (
            ("leaf a 3", "0 3.3 1 - 1 8"), ("stuff", "0 3.3.3 0 - 1 8"), ("making 0", None),
        ):
            desk = desk_of(TAKING, ((0,), ((3, 3, 3),), 1, (), 1, 0))
            if stand is None:
                self.refused(desk, "strike mother " + row, "NoDeed", ("making", 0), "gone")
                continue
            self.assertEqual(desk.say("strike mother " + row), "ok")
            self.assertEqual(desk.say("stand mother"), stand)
        desk = desk_of(SMALL)
        self.assertEqual(desk.say("strike mother tool a"), "ok")
        self.assertEqual(desk.say("stand mother"), "0 2.2.2 0 - 1 3")
        desk = desk_of(TAKING, ((0,), ((3, 3, 3),), 1, ((("tool", "a"), 1),), 1, 0), "strike mother making 0")
        self.assertEqual(desk.say("stand mother"), "0 3.3.3 1 - 1 8")

    def test_cut_and_give(self):
        desk = desk_of(STUFF, None)
        self.assertEqual(desk.say("cut mother cup 1 3 2"), "ok")
        self.assertEqual((desk.say("stand mother"), desk.say("stand cup")), ("0 3.3 1 - 2 0", "1 3 2 - 2 6"))
        self.assertEqual(desk.say("give mother cup 0 - 1"), "ok")
        self.assertEqual(desk.say("ledger mother"), "3 0 0 3 0 0 0")
        self.assertEqual(desk.say("ledger cup"), "2 0 1 0 0 0 3")
        self.assertEqual(desk.say("names"), "mother cup")

    def test_undo(self):
        desk = desk_of(WIDE, None, "do mother make a 3", "beat", "beat", "beat")
        self.assertEqual(desk.say("undo"), "3")
        self.assertEqual(desk.say("undo 2"), "1")
        self.refused(desk, "undo 2", "NoBack", 2)
        self.refused(desk, "undo 0", "NoBack", 0)
        self.refused(desk, "undo 999999999999", "NoBack", 999999999999)
        self.assertEqual(desk.say("undo 1"), "0")
        self.refused(desk, "undo", "NoBack", 1)
        self.assertEqual(desk.say("stand mother"), stand_text(full_stand(WIDE)))

    def test_looks(self):
        desk = desk_of(SMALL, ((1,), ((1, 1, 0),), 0, (), 1, 0))
        self.assertEqual(desk.say("came mother"), "-")
        self.assertEqual(desk.say("ready"), "yes")
        self.assertEqual(desk.say("ledger mother"), "0 0 0 0 0 0 0")
        self.assertEqual(desk.say("strike mother leaf a 1"), "ok")
        self.assertEqual(desk.say("may mother"), "copy a 1")
        self.assertEqual(desk.say("beat"), "mother:-")
        self.assertEqual(desk.say("ready"), "no")
        self.refused(desk, "beat", "NoKeep", BEAT)
        self.assertEqual(desk.say("do mother copy a 1"), "ok")
        self.assertEqual(desk.say("may mother"), "agree a 0,0")
        self.assertEqual(desk.say("do mother agree a 0,0"), "ok")
        self.assertEqual(desk.say("may mother"), "-")
        self.assertEqual(desk.say("ready"), "yes")
        desk = desk_of(WIDE)
        self.assertEqual(desk.say("may mother"), "agree a 3,3 | copy a 3 | make a 3")
        desk.say("do mother copy a 3")
        self.assertEqual(desk.say("may mother").split(" | ")[0:2], ["agree a 3,2", "agree a 3,3"])
        self.assertIn("break 0", desk.say("may mother").split(" | "))

    def test_as_the_keeper_refuses(self):
        desk = desk_of(WIDE)
        for row, *told in (
            ("do cup make a 3", "NoHouse", "cup"), ("do mother make b 3", "NoDeed", ("make", "b", 3), "kind"),
            ("do mother agree a 3,3,3", "NoDeed", ("agree", "a", (3, 3, 3)), "leaf"),
            ("do mother break 7", "NoDeed", ("break", 7), "making"),
            ("strike cup stuff", "NoHouse", "cup"), ("strike mother stuff", "NoDeed", ("stuff",), "gone"),
            ("strike mother leaf b 1", "NoDeed", ("leaf", "b", 1), "kind"), ("cut cup pen 0 3 0", "NoHouse", "cup"),
            ("cut mother mother 0 3 0", "NoHouse", "mother"), ("give mother cup 0 3 0", "NoHouse", "cup"),
            ("give mother mother 0 3 0", "NoDeed", ("give", "mother", "mother", ((0,), ((3,),), 0)), "self"),
            # Uses and groups of LIGHTS may differ in number, and be above all bounds: the KEEPER refuses them.
            ("cut mother cup 0,0 3 0", "NoDeed", ("cut", "mother", "cup", ((0, 0), ((3,),), 0)), "lot"),
            ("cut mother cup 0 3;- 0", "NoDeed", ("cut", "mother", "cup", ((0,), ((3,), ()), 0)), "lot"),
            ("cut mother cup 999999999999 3 0", "NoDeed", ("cut", "mother", "cup", ((999999999999,), ((3,),), 0)),
             "lot"),
            ("cut mother cup 0 - 0", "NoKeep", ("cut", "mother", "cup", ((0,), ((),), 0))),
            ("stand cup", "NoHouse", "cup"), ("came cup", "NoHouse", "cup"), ("ledger cup", "NoHouse", "cup"),
            ("may cup", "NoHouse", "cup"),
        ):
            self.refused(desk, row, *told)
        desk.say("do mother make a 3")
        self.refused(desk, "strike mother leaf a 3", "NoDeed", ("leaf", "a", 3), "late")

    def test_of_no_form(self):
        desk = desk_of(WIDE)
        rows = [
            "names", "ready", "beat", "undo", "undo 1", "stand mother", "came mother", "ledger mother", "may mother",
            "do mother make a 3", "do mother copy a 3", "do mother agree a 3,3", "do mother break 0",
            "strike mother tool a",
            "strike mother leaf a 3", "strike mother making 0", "strike mother stuff", "cut mother cup 0 3 0",
            "give mother cup 0 3 0",
        ]
        for row in rows:
            # A blank more, ahead, at the end, within; a line end; a word more; a sign otherwise; an empty text.
            self.no_line(desk, " " + row, row + " ", row + "\n", "\n" + row, row + " x", row + " -",
                         row[:-1] + "\n" + row[-1],
                         row.replace(" ", "\n", 1) if " " in row else row + "\n\n", row.capitalize(), row.upper(),
                         row[1:], row + ".")
            if " " in row:
                self.no_line(desk, row.replace(" ", "  ", 1), row.replace(" ", "_", 1), row[:row.index(" ") + 1])
        self.no_line(
            desk, "", " ", "x", "open", "do", "do mother", "do mother make", "do mother make a", "do mother make a 3 3",
            # Figures: a 0 ahead, thirteen of them, none, a sign.
            "do mother make a 03", "do mother make a 00", "do mother make a 1000000000000", "do mother make a -1",
            "do mother make a +1", "do mother make a x", "do mother make a 1_0", "do mother make a 3.",
            "do mother make a ",
            "undo 01", "undo 1000000000000", "undo -1", "undo x", "undo 1 1", "undo 1,1",
            # LIGHTS fall, two or more agree.
            "do mother agree a 3", "do mother agree a 2,3", "do mother agree a 3,,3", "do mother agree a 3,3,",
            "do mother agree a 3.3",
            "do mother agree a ,3", "do mother agree a -", "do mother agree a 03,3", "do mother agree a 3;3",
            "do mother make a 3,3",
            # Names are WORDS.
            "do Mother make a 3", "do mother make A 3", "do mothermother make a 3", "do m0ther make a 3",
            "do mother make abcdefghi 3",
            "stand MOTHER", "stand abcdefghi", "stand mo-ther", "stand 1", "may", "came", "ledger", "stand",
            "names mother",
            "ready mother", "beat mother", "cut mother Cup 0 3 0", "cut mother cup", "give mother Cup 0 3 0",
            "strike Mother stuff",
            "strike mother", "strike mother leaf a", "strike mother leaf 3", "strike mother leaf a x",
            "strike mother making x",
            "strike mother making 01", "strike mother making", "strike mother tool", "strike mother tool A",
            "strike mother stuff 1",
            "strike mother leaf a 3,3", "strike mother making a 0", "strike mother tool 0",
            # LOTS.
            "cut mother cup 0 3", "cut mother cup 0 3 0 0", "cut mother cup - 3 0", "cut mother cup 0, 3 0",
            "cut mother cup ,0 3 0",
            "cut mother cup 0 3, 0", "cut mother cup 0 3; 0", "cut mother cup 0 ;3 0", "cut mother cup 0 2,3 0",
            "cut mother cup 0 --  0",
            "cut mother cup 0 -,3 0", "cut mother cup 0 3 -", "cut mother cup 00 3 0", "cut mother cup 0 03 0",
            "cut mother cup 0 3 00",
            "cut mother cup 0 3 1000000000000", "cut mother cup 1000000000000 3 0", "cut mother cup 0 1000000000000 0",
            "cut mother cup 0;0 3 0", "give mother cup 0 3.3 0", "give mother 0 3 0", "cut mother 0 3 0", "make a 3",
            "leaf a 3",
            "do mother strike leaf a 3", "strike mother make a 3", "do mother stuff", "do mother beat", "keeper",
            "log", "counts",
            "back", "back 1", "ready\tx",
        )

    def test_twelve_figures(self):
        desk = desk_of(WIDE)
        self.refused(desk, "do mother make a 999999999999", "NoDeed", ("make", "a", 999999999999), "leaf")
        self.refused(desk, "do mother break 100000000000", "NoDeed", ("break", 100000000000), "making")
        self.refused(desk, "strike mother leaf a 999999999999", "NoDeed", ("leaf", "a", 999999999999), "gone")

    def test_no_line_ahead_of_all_else(self):
        desk = desk_of(WIDE)
        self.no_line(desk, "do cup make a", "stand cup ", "cut cup cup 0 1,2 0", "undo 099")


class Told(Case):
    def looks(self, desk, keeper):
        """What a desk tells is what the KEEPER tells."""
        self.assertEqual(desk.say("names"), " ".join(keeper.names()))
        self.assertEqual(desk.say("ready"), "yes" if keeper.may_beat() else "no")
        for name in keeper.names():
            self.assertEqual(desk.say("stand " + name), stand_text(keeper.stand_of(name)))
            beats = [",".join(what + "." + of for what, of in comes) or "-" for comes in keeper.came(name)]
            self.assertEqual(desk.say("came " + name), " | ".join(beats) or "-")
            self.assertEqual(desk.say("ledger " + name), " ".join(map(str, keeper.ledger(name))))
            may = [row_text(("do", "x", deed))[5:] for deed in keeper.may(name)]
            self.assertEqual(desk.say("may " + name), " | ".join(may) or "-")

    def test_as_the_keeper_of_its_log(self):
        for plant, seed in ((WIDE, 3), (WIDE, 4), (STUFF, 5), (ASKED, 6), (TAKING, 7)):
            chance = numbers(seed)
            desk = desk_of(plant)
            keeper = Keeper(plant, full_stand(plant))
            for step in range(40):
                row = some_row(keeper, plant, chance)
                if next(chance) % 12 == 0:
                    times = next(chance) % 4
                    told = refusal(keeper.back, times=times)
                    answer = refusal(desk.say, "undo " + str(times))
                    self.assertEqual(answer, told)
                    continue
                ahead = len(keeper.log())
                told = refusal(keeper.do_all, [row])
                text = row_text(row)
                if told is None:
                    answer = desk.say(text)
                    self.assertEqual(answer if row != BEAT else answer.split(":")[0], "ok" if row != BEAT else "mother")
                    self.assertEqual(len(keeper.log()), ahead + 1)
                else:
                    self.assertEqual(refusal(desk.say, text), told, text)
                if step % 6 == 0:
                    self.looks(desk, keeper)
                    self.looks(desk, replayed(keeper.log()))
            self.looks(desk, keeper)

    def test_counts(self):
        desk = Desk()
        self.assertEqual(desk.counts(), (0, 0))
        rows = ["", "names", opened(WIDE), "names", "beat", "beat ", "do mother make b 1", "undo 9",
                "cut mother cup 0 - 0", "open\n\n",
                "stand cup", "cut mother cup 0 3 0", "undo"]
        for k, row in enumerate(rows):
            refusal(desk.say, row)
            self.assertEqual(desk.counts(), (k + 1, k + 1))
        self.assertIs(desk.counts().__class__, tuple)

    def test_two_have_nothing_in_common(self):
        one, other = desk_of(WIDE), desk_of(WIDE)
        one.say("do mother make a 3")
        one.say("beat")
        self.assertEqual((other.say("stand mother"), other.counts()), (stand_text(full_stand(WIDE)), (2, 2)))
        with self.assertRaises(NoLine):
            Desk().say("names")

    def test_row_texts(self):
        keeper = Keeper(WIDE, full_stand(WIDE))
        rows = (("cut", "mother", "cup", ((1,), ((3,),), 0)), ("do", "cup", ("make", "a", 3)), BEAT,
                ("strike", "mother", ("leaf", "a", 3)))
        keeper.do_all(rows)
        desk = desk_of(WIDE, None, *[row_text(row) for row in rows])
        self.looks(desk, keeper)
        self.assertEqual(looks_of(keeper)["str"], "mother,cup 1")


if __name__ == "__main__":
    unittest.main()
