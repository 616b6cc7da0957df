"""Points [49], [50]: COME PAPERS, and what looks at any thing as one."""

import unittest

from handsmade.bounds import MOST
from handsmade.comechecker import lets_come
from handsmade.comepapers import come_paper
from handsmade.comes import beats_to
from handsmade.errors import NoPaper
from handsmade.order import is_no_less
from handsmade.stands import full_stand, void_stand
from handsmade.turns import turns_of
from handsmade.webs import quiet_web
from papers import changes, come_told
from plain import some_stands
from samples import ASKED, BIG, DRIPS, FALLING, MILL, NEEDY, ODD, PAIR, SLOW, SMALL, TINY, TWINS, changed, refusal

LITTLE = (TINY, SMALL, ASKED, DRIPS, SLOW, NEEDY, FALLING)
LEAF = ("leaf", "a")
TOOL = ("tool", "a")
BEAT = ("beat",)
START = ((0,), ((2,),), 0, (), 1, 0)
DARK = ((0,), ((0,),), 0, (), 1, 0)
DARK_USED = ((1,), ((0,),), 0, (), 1, 3)


class Papers(unittest.TestCase):
    def test_told_is_let_by(self):
        words = set()
        for plant in LITTLE:
            for stand in some_stands(plant, 20):
                for good in (LEAF, TOOL):
                    paper = come_paper(plant, stand, good)
                    word = "barren" if beats_to(plant, stand, good) is None else "row"
                    self.assertEqual(paper[0], word)
                    self.assertEqual(lets_come(plant, stand, good, paper), word, (stand, paper))
                    self.assertEqual(come_told(plant, stand, good, paper), word, (stand, paper))
                    words.add(word)
        self.assertEqual(words, {"row", "barren"})

    def test_of_two_kinds(self):
        for plant, stand in ((PAIR, full_stand(PAIR)), (TWINS, ((0, 0), ((2, 2), (0,)), 0, (), 1, 0))):
            for name in "ab":
                for what in ("leaf", "tool"):
                    paper = come_paper(plant, stand, (what, name))
                    self.assertEqual(lets_come(plant, stand, (what, name), paper), paper[0])

    def test_no_more(self):
        for stand, good in ((START, LEAF), (DARK, LEAF), (DARK, TOOL)):
            many = len(quiet_web(SMALL, stand))
            self.assertEqual(come_paper(SMALL, stand, good, most=many), come_paper(SMALL, stand, good))
            self.assertEqual(come_paper(works=SMALL, stand=stand, good=good, most=many)[0],
                             come_paper(SMALL, stand, good)[0])
            for most in (many - 1, 0):
                self.assertEqual(refusal(come_paper, SMALL, stand, good, most=most), ("NoMore", most))
        self.assertEqual(refusal(come_paper, MILL, full_stand(MILL), LEAF), ("NoMore", MOST))

    def test_a_paper_of_other_stands(self):
        """What a paper tells of a STAND it tells of what is NO MORE, or NO LESS, too."""
        for plant in (SMALL, DRIPS):
            stands = some_stands(plant, 60)
            for stand in stands[::6]:
                for good in (LEAF, TOOL):
                    paper = come_paper(plant, stand, good)
                    for other in stands:
                        told = refusal(lets_come, plant, other, good, paper)
                        if paper[0] == "barren" and is_no_less(stand, other):
                            self.assertIsNone(told)
                        if told is None:
                            self.assertIs(beats_to(plant, other, good) is None, paper[0] == "barren")


class Rows(unittest.TestCase):
    def refused(self, thing, word, at, stand=START, good=TOOL, plant=SMALL):
        with self.assertRaises(NoPaper) as caught:
            lets_come(plant, stand, good, thing)
        self.assertEqual((caught.exception.word, caught.exception.at), (word, at), thing)

    def test_let_by(self):
        for row in (
            (("make", "a", 2), BEAT), (BEAT, BEAT, ("make", "a", 2), BEAT),
            (("make", "a", 2), BEAT, ("make", "a", 1), BEAT), (("copy", "a", 2), ("make", "a", 1), BEAT),
            # In a QUIET ROW a "break" may stand anywhere.
            (("copy", "a", 2), ("break", 0), ("make", "a", 1), BEAT),
        ):
            self.assertEqual(lets_come(SMALL, START, TOOL, ("row", row)), "row")
            self.assertEqual(lets_come(works=SMALL, stand=START, good=TOOL, thing=("row", row)), "row")

    def test_end(self):
        for row in (
            (), (BEAT,), (("make", "a", 2),), (("make", "a", 2), BEAT, ("make", "a", 1)),
            (("make", "a", 2), BEAT, BEAT),
            (("copy", "a", 2), BEAT), (("make", "a", 2), ("break", 0), BEAT),
        ):
            self.refused(("row", row), "end", -1)
        self.refused(("row", (("make", "a", 2), BEAT)), "end", -1, good=LEAF)
        # A copy of light 0 doesn't COME.
        self.refused(("row", (("copy", "a", 1), BEAT)), "end", -1, good=LEAF, stand=changed(START, 1, ((1,),)))

    def test_step(self):
        beat = ("row", (("make", "a", 2), BEAT))
        self.assertEqual(lets_come(SMALL, START, TOOL, beat), "row")
        for thing in ODD + [
            ("make", "a", True), ("make", "a", 0), ("make", "a", 3), ("make", "b", 2), ("make", "a", -2),
            ("make", "a", BIG),
            ("make", "a", "2"), ("copy", "a", 0), ("copy", "a", None), ["make", "a", 2], ("break", 0), ("break", False),
            ("agree", "a", (2, 2)), ("agree", "a", (2,)), ("agree", "a", [2, 2]), ("agree", "a", 2), ["beat"], "beat",
            ("beat", 0), ("beat", "beat"), ("strike", ("leaf", "a", 2)), ("leaf", "a", 2), ("stuff",),
            (("make", "a", 2),),
        ]:
            self.refused(("row", (thing,) + beat[1]), "step", 0)
            self.refused(("row", beat[1] + (thing,)), "step", 2)
            self.refused(("row", (thing, thing)), "step", 0)
        self.refused(("row", (BEAT, BEAT, ("make", "a", True), BEAT)), "step", 2, stand=changed(START, 1, ((1,),)))
        self.refused(("row", (("agree", "a", (True, 1)), BEAT)), "step", 0, stand=changed(START, 1, ((1, 1),)),
                     good=LEAF)
        self.refused(("row", (("make", "a", 2), ("break", False), BEAT)), "step", 1)

    def test_barred(self):
        full = ((1,), ((2, 2, 2),), 0, (), 1, 0)
        three = tuple(("make", "a", 2) for _ in range(3))
        self.refused(("row", three + (BEAT,)), "step", 2, stand=full)
        self.refused(("row", (("copy", "a", 2), BEAT)), "step", 0, stand=changed(full, 2, 1), good=LEAF, plant=ASKED)
        self.refused(("row", (("agree", "a", (2, 2)), BEAT)), "step", 0, stand=full, good=LEAF, plant=ASKED)
        self.refused(("row", (("agree", "a", (2, 2, 2)), BEAT)), "step", 0, stand=full, good=LEAF)
        self.refused(("row", (("agree", "a", (1, 2)), BEAT)), "step", 0, stand=changed(full, 1, ((2, 1),)), good=LEAF)

    def test_shape(self):
        rows = [(), (BEAT,), (("make", "a", 2), BEAT)]
        for thing in ODD + rows + [
            ("row",), ("row", []), ("row", None), ("row", "row"), ("row", [BEAT]), ("rows", ()), ("Row", ()),
            (None, ()),
            (True, ()), (["row"], ()), ("row", (), ()), ["row", ()], ("barren", [START]), ("barren",), ("barren", None),
            ("barren", (), ()), ["barren", (START,)], ("kept", ()), ((), "row"), (("row",), ()), ("row", True),
        ]:
            self.refused(thing, "shape", -1)


class Barren(unittest.TestCase):
    PAPER = ("barren", (DARK, DARK_USED, changed(DARK_USED, 5, 2), changed(DARK_USED, 5, 1), changed(DARK_USED, 5, 0)))

    def refused(self, stands, word, at, stand=DARK, good=LEAF, plant=SMALL):
        with self.assertRaises(NoPaper) as caught:
            lets_come(plant, stand, good, ("barren", stands))
        self.assertEqual((caught.exception.word, caught.exception.at), (word, at), stands)

    def test_let_by(self):
        void = void_stand(SMALL)
        for stand, stands in (
            (void, (void,)), (DARK, (DARK,)), (void, (DARK,)), (DARK, (void, DARK)),
            (DARK, (((1,), ((0,),), 0, (), 1, 0),)),
            (((0,), ((0,),), 0, (), 1, 1), (((1,), ((0,),), 0, (), 1, 0), ((1,), ((0,),), 0, (), 1, 1))),
        ):
            for good in (LEAF, TOOL):
                self.assertEqual(lets_come(SMALL, stand, good, ("barren", stands)), "barren")
                self.assertEqual(lets_come(works=SMALL, stand=stand, good=good, thing=("barren", stands)), "barren")

    def test_stand(self):
        for thing in ODD + [
            ((0,), ((3,),), 0, (), 1, 0), ((2,), ((0,),), 0, (), 1, 0), ((0,), ((0,),), 0, (), 2, 0),
            ((0,), ((0,),), 0, (), 1, 4), ((False,), ((0,),), 0, (), 1, 0), [*DARK], ((0,), ((0,),), 0, (), True, 0),
            ((0, 0), ((0,), (0,)), 0, (), 1, 0), ((0,), ((0, 1),), 0, (), 1, 0), DARK[:5], DARK + (0,),
        ]:
            self.refused((thing,), "stand", 0)
            self.refused((DARK, thing), "stand", 1)
            self.refused((thing, thing), "stand", 0)
            # Ahead of what doesn't rise behind it.
            self.refused((DARK, thing, DARK), "stand", 1)

    def test_rise(self):
        self.refused((DARK, DARK), "rise", 1)
        self.refused((DARK, void_stand(SMALL)), "rise", 1)
        self.refused((void_stand(SMALL), DARK, DARK), "rise", 2)
        # Ahead of a thing behind it that is no STAND, and of all that is looked at behind all.
        self.refused((DARK, DARK, None), "rise", 1)
        self.refused((START, START), "rise", 1, stand=full_stand(SMALL))

    def test_first(self):
        self.refused((), "first", -1)
        self.refused((void_stand(SMALL),), "first", -1)
        self.refused((DARK,), "first", -1, stand=changed(DARK, 0, (1,)))
        self.refused((DARK,), "first", -1, stand=changed(DARK, 5, 1))
        # Ahead of a STAND from which the GOOD COMES.
        self.refused((START,), "first", -1, stand=full_stand(SMALL))

    def test_comes(self):
        turns = turns_of(SMALL, START)
        for good in (LEAF, TOOL):
            for j, turn in enumerate(turns):
                if good == TOOL and turn == (("make", "a", 2),) or good == LEAF and turn == (("copy", "a", 2),):
                    # The first TURN that brings it, where what all TURNS lead to is there.
                    stands = tuple(sorted(set(quiet_web(SMALL, START))))
                    k = stands.index(START)
                    told = come_told(SMALL, START, good, ("barren", stands))
                    self.refused(stands, *told, stand=START, good=good)
                    self.assertEqual(told[0], "comes")
                    self.assertLessEqual(told[1], (k, j))

    def test_a_later_turn(self):
        # The void TURN and that of a "break" bring nothing; a making that ENDs does.
        stand = ((0,), ((0, 0),), 0, (), 1, 0)
        turns = turns_of(SMALL, stand)
        self.assertEqual(turns, ((), (("agree", "a", (0, 0)),)))
        self.refused((stand,), "comes", (0, 1), stand=stand, good=LEAF)
        # Of the tool it leads to a STAND that isn't there.
        self.refused((stand,), "leaves", (0, 1), stand=stand, good=TOOL)
        self.refused((DARK, stand), "leaves", (1, 1), stand=stand, good=TOOL)

    def test_leaves(self):
        one = ((0,), ((0,),), 0, (), 1, 0)
        self.refused((one,), "leaves", (0, 0), stand=one, plant=DRIPS)
        self.refused((one, changed(one, 2, 1)), "leaves", (0, 0), stand=one, plant=DRIPS)
        self.refused((one, changed(one, 4, 2)), "leaves", (0, 0), stand=one, plant=DRIPS)
        self.refused((changed(one, 4, 2), changed(one, 2, 1)), "leaves", (1, 0), stand=one, plant=DRIPS)
        full = changed(one, 2, 1)
        stands = (full, changed(full, 4, 2))
        self.assertEqual(lets_come(DRIPS, one, LEAF, ("barren", stands)), "barren")
        # Of several due the first: STAND by STAND, TURN by TURN, what COMES ahead of what it leads to.
        one = ((0,), ((1,),), 0, (), 1, 0)
        self.assertEqual(turns_of(SMALL, one), ((), (("copy", "a", 1),), (("make", "a", 1),)))
        self.refused((one,), "leaves", (0, 1), stand=one, good=TOOL)
        self.refused((one,), "leaves", (0, 1), stand=one, good=LEAF)
        both = ((0,), ((0, 0),), 0, (), 1, 0)
        self.refused((both, one), "leaves", (0, 1), stand=one, good=TOOL)
        self.refused((both, one), "comes", (0, 1), stand=one, good=LEAF)
        # Where three have to agree two dark ones lead nowhere: the third TURN of the other STAND is the first at fault.
        self.refused((both, one), "comes", (1, 2), stand=one, good=TOOL, plant=changed(SMALL, 2, (3, 0, 1)))

    def test_changed_papers(self):
        """Each place of papers, of rows and of barren ones, changed in many ways: as the plainest way tells."""
        seen = set()
        cases = [
            (SMALL, START, TOOL), (SMALL, ((0,), ((1,),), 0, (), 1, 0), LEAF), (SMALL, DARK_USED, TOOL),
            (ASKED, ((0,), ((1, 1),), 3, (), 1, 2), LEAF), (DRIPS, ((0,), ((0,),), 1, ((TOOL, 1),), 2, 1), LEAF),
            (PAIR, ((0, 0), ((1,), (1, 0)), 1, (), 1, 0), ("tool", "a")), (FALLING, full_stand(FALLING), TOOL),
        ]
        for plant, stand, good in cases:
            paper = come_paper(plant, stand, good)
            for thing in changes(paper, 7, 1):
                told = come_told(plant, stand, good, thing)
                try:
                    self.assertEqual(lets_come(plant, stand, good, thing), told, thing)
                except NoPaper as refused:
                    self.assertEqual((refused.word, refused.at), told, thing)
                seen.add(told if told.__class__ is str else told[0])
        self.assertGreaterEqual(seen, {"row", "shape", "step", "end", "stand", "rise", "first", "leaves", "barren"})


if __name__ == "__main__":
    unittest.main()
