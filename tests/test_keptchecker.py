"""Points [55], [56], [57], [58]: what looks at any thing as a KEPT PAPER or a LOST PAPER."""

import unittest

from handsmade.errors import NoPaper
from handsmade.kept import is_kept
from handsmade.keptchecker import lets_kept
from handsmade.order import is_no_less
from handsmade.stands import full_stand, void_stand
from handsmade.webs import whole_web
from papers import keep_told, part_at, put
from plain import all_stands
from samples import BIG, DRIPS, MIXED, ODD, PLANT, SMALL, TINY, changed

LEAF = ("leaf", "a")
TOOL = ("tool", "a")

# Leaves come as bright as 3, three things are made at once, and the FOE rests for three beats.
HAND = ((("a", (), 0, 1, 1, 0),), ((), 0, 1), (2, 0, 1), (2, 2, 3, 0), (0, 1), (1, 3), 3)


def made(light):
    return ("make", "a", light)


def copied(light):
    return ("copy", "a", light)


def laid(*lights):
    return ("agree", "a", lights)


def at(*lights, rest=0):
    return ((0,), (lights,), 0, (), 1, rest)


# WAYS of STANDS of rest 0 are None, then the leaves by their light; the GOODS are the leaf, then the tool.
KEPT_ROWS = (
    (at(2, 2), (
        (1, ((copied(2),), (copied(2),))),
        (1, ((made(2),), (copied(2), made(1)))),
    )),
    (at(2, 1), (
        (2, ((copied(2), laid(1, 1)), (copied(2),), (copied(1),))),
        (3, ((copied(2), made(1), laid(1, 0)), (copied(2),), (copied(1),))),
    )),
    (at(1, 0, rest=2), (
        (1, ((laid(1, 0),),)),
        (1, ((made(1), laid(0, 0)),)),
    )),
    (at(0, 0, rest=2), (
        (1, ((laid(0, 0),),)),
        (2, ((laid(0, 0),),)),
    )),
    (at(3, rest=1), (
        (1, ((copied(3),),)),
        (1, ((copied(3), made(2)),)),
    )),
)
KEPT = ("kept", KEPT_ROWS)

USED = ((2,), ((),), 0, (), 1, 2)
LONE = ((2,), ((3,),), 0, (), 1, 0)
# A lone leaf is struck; where none is none ever comes.
LOST_ROWS = ((LONE, 1, TOOL, ("leaf", "a", 3)), (USED, 0, LEAF, None))
LOST = ("lost", LOST_ROWS)


class Case(unittest.TestCase):
    def let(self, word, thing, stand, plant=HAND):
        self.assertEqual(lets_kept(plant, stand, thing), word)
        self.assertEqual(lets_kept(works=plant, stand=stand, thing=thing), word)
        self.assertEqual(keep_told(plant, stand, thing), word)

    def refused(self, thing, word, place, stand, plant=HAND):
        with self.assertRaises(NoPaper) as caught:
            lets_kept(plant, stand, thing)
        self.assertEqual((caught.exception.word, caught.exception.at), (word, place), thing)


class Shapes(Case):
    def test_shape(self):
        row, lost = KEPT_ROWS[0], LOST_ROWS[0]
        for thing in ODD + [
            ("kept",), ("lost",), ("kept", None), ("lost", None), ("kept", []), ("lost", [lost]), ["kept", KEPT_ROWS],
            ("kept", KEPT_ROWS, ()), ("Kept", KEPT_ROWS), (None, KEPT_ROWS), (("kept",), KEPT_ROWS), (True, ()),
            ("kept", (row, row[0])), ("kept", (list(row),)), ("kept", (row, None)), ("kept", (row[:1],)),
            ("kept", (row + (0,),)), ("kept", row), ("kept", LOST_ROWS), ("lost", KEPT_ROWS),
            ("lost", (lost, lost[:3])),
            ("lost", (lost + (None,),)), ("lost", (list(lost),)), ("lost", (lost, None)), ("lost", lost),
            ("kept", "ab"),
            ("lost", "abcd"), ("row", ()), ("barren", (LONE,)), ("kept", True), ("lost", 0),
        ]:
            self.refused(thing, "shape", -1, at(2, 2))

    def test_ahead_of_all_else(self):
        self.refused(("kept", ((None, None), None)), "shape", -1, at(2, 2))
        self.refused(("lost", ((None, None, None, None), ())), "shape", -1, at(2, 2))


class Kept(Case):
    def test_let_by(self):
        for stand in (
            at(2, 2), at(2, 1), at(3, 3), at(3, 1), ((2,), ((2, 1),), 0, (), 1, 3), at(1, 0, rest=2), at(1, 0, rest=3),
            at(2, rest=3, *(2,)), at(3, rest=1), at(0, 0, rest=2),
            # What is NO LESS has what the makings bring, too.
            ((0,), ((2, 1),), 0, ((("leaf", "a", 2), 1),), 1, 0),
        ):
            self.let("kept", KEPT, stand)
            self.assertTrue(is_kept(HAND, stand))

    def test_rows_in_any_order_some_twice(self):
        self.let("kept", ("kept", KEPT_ROWS[::-1]), at(2, 2))
        self.let("kept", ("kept", KEPT_ROWS + KEPT_ROWS), at(2, 2))
        self.let("kept", ("kept", KEPT_ROWS[2:] + KEPT_ROWS[:2]), at(2, 1))

    def test_asked(self):
        for stand in (at(2), at(1, 1), at(3), at(1, 0, rest=1), at(0, 0, rest=1), at(1, rest=3),
                      void_stand(HAND, rest=3)):
            self.refused(KEPT, "asked", -1, stand)
        self.refused(("kept", ()), "asked", -1, at(2, 2))

    def test_stand(self):
        duties = KEPT_ROWS[0][1]
        for thing in ODD + [at(4), at(1, 2), at(2, 2, 2), at(2, rest=4), ((3,), ((2, 2),), 0, (), 1, 0), [*at(2, 2)],
                            ((False,), ((2, 2),), 0, (), 1, 0), at(2, True), changed(at(2, 2), 4, 2)]:
            self.refused(("kept", ((thing, duties),)), "stand", 0, at(2, 2))
            self.refused(("kept", KEPT_ROWS + ((thing, duties),)), "stand", 5, at(2, 2))
            self.refused(("kept", KEPT_ROWS[:1] + ((thing, None),) + KEPT_ROWS[1:]), "stand", 1, at(2, 2))

    def with_duties(self, k, duties):
        return "kept", KEPT_ROWS[:k] + ((KEPT_ROWS[k][0], duties),) + KEPT_ROWS[k + 1:]

    def test_goods(self):
        leaf, tool = KEPT_ROWS[1][1]
        turns = leaf[1]
        for duties in ODD + [
            (), (leaf,), (leaf, tool, tool), [leaf, tool], (leaf, list(tool)), (leaf, None), (leaf, tool[:1]),
            # The n of a duty is a NUMBER from 1 on.
            ((0, turns), tool), ((True, turns), tool), ((-1, turns), tool), ((None, turns), tool), (leaf, ("1", turns)),
            ((1, turns, ()), tool), ((turns, 1), tool),
            # Turns are as many as WAYS, and each is a tuple.
            ((2, turns[:2]), tool), ((2, turns + ((),)), tool), (leaf, (2, ())), ((2, list(turns)), tool),
            ((2, turns[:2] + (list(turns[2]),)), tool), ((2, turns[:2] + (None,)), tool), ((2, ("", "", "")), tool),
            (leaf, (2, None)), (leaf, (2, 3)),
        ]:
            self.refused(self.with_duties(1, duties), "goods", 1, at(2, 2))
        # Ahead of a TURN of this row that can't be, behind one of a row ahead.
        self.refused(self.with_duties(1, ((0, ((None,), (), ())), tool)), "goods", 1, at(2, 2))
        rows = put(KEPT, (1, 0, 1, 0, 1, 0), (None,))
        self.refused(put(rows, (1, 1, 1), ()), "turn", (0, 0, 0), at(2, 2))

    def test_goods_of_two_kinds(self):
        stand = void_stand(PLANT)
        turns = (1, ((),))
        for many in (0, 2, 3, 5):
            self.refused(("kept", ((stand, (turns,) * many),)), "goods", 0, stand, plant=PLANT)
        self.refused(("kept", ((stand, (turns,) * 4),)), "leads", (0, 0, 0), stand, plant=PLANT)

    def test_turn(self):
        for turn in [
            (thing,) for thing in ODD
        ] + [
            (copied(3),), (copied(1), copied(1)), (copied(2), ("beat",)), (("beat",),), (("copy", "a", True),),
            (["copy", "a", 2],),
            (copied(2), ("break", 0)), (("break", 0),), (("break", False),), (copied(2), copied(2), copied(2)),
            (("copy", "b", 2),), (("strike", ("leaf", "a", 2)),), (laid(2, 1, 0),), (laid(1, 2),),
            (("agree", "a", (2, True)),),
            (copied(2), made(1), made(0)), (copied(-2),), (copied(BIG),),
        ]:
            self.refused(put(KEPT, (1, 1, 1, 0, 1, 0), turn), "turn", (1, 0, 0), at(2, 2))
        # Struck, the leaf isn't there.
        self.refused(put(KEPT, (1, 1, 1, 0, 1, 1), (copied(1),)), "turn", (1, 0, 1), at(2, 2))
        self.refused(put(KEPT, (1, 1, 1, 0, 1, 2), (copied(2),)), "turn", (1, 0, 2), at(2, 2))
        self.refused(put(KEPT, (1, 1, 1, 1, 1, 2), (copied(2),)), "turn", (1, 1, 2), at(2, 2))
        # Of several due the first, row by row, GOOD by GOOD, WAY by WAY.
        bad = put(put(KEPT, (1, 4, 1, 1, 1, 0), (None,)), (1, 1, 1, 1, 1, 0), (None,))
        self.refused(bad, "turn", (1, 1, 0), at(2, 2))
        self.refused(put(bad, (1, 1, 1, 0, 1, 2), (None,)), "turn", (1, 0, 2), at(2, 2))
        self.refused(put(bad, (1, 3, 0), None), "turn", (1, 1, 0), at(2, 2))
        self.refused(put(bad, (1, 0, 0), None), "stand", 0, at(2, 2))

    def test_breaks_in_turns(self):
        # Of two bright leaves and two makings whatever is broken leaves two bright ones, with no rest.
        stand = ((0,), ((2, 2),), 0, ((("leaf", "a", 2), 1), (TOOL, 1)), 1, 1)
        good = (("break", 1),)
        for turn in (good, (("break", 0),), (("break", 0), ("break", 0)), (("break", 1), ("break", 0)), ()):
            self.let("kept", ("kept", ((stand, ((5, (turn,)), (5, (good,)))),) + KEPT_ROWS), stand)
        for turn in ((copied(2), ("break", 0)), (("break", 2),), (("break", 0), ("break", 1)), (("break", True),)):
            self.refused(("kept", ((stand, ((5, (turn,)), (5, (good,)))),) + KEPT_ROWS), "turn", (0, 0, 0), stand)
            self.refused(("kept", ((stand, ((5, (good,)), (5, (turn,)))),) + KEPT_ROWS), "turn", (0, 1, 0), stand)

    def test_leads(self):
        # What is led to isn't there.
        for k in range(5):
            rows = KEPT_ROWS[:k] + KEPT_ROWS[k + 1:]
            if k in (0, 2):
                # Others, NO MORE than what these are, are there in their place.
                self.let("kept", ("kept", rows), at(2, 2))
                continue
            self.assertEqual(keep_told(HAND, at(2, 2), ("kept", rows))[0], "leads")
            self.refused(("kept", rows), *keep_told(HAND, at(2, 2), ("kept", rows)), at(2, 2))
        self.refused(("kept", KEPT_ROWS[:1]), "leads", (0, 0, 0), at(2, 2))
        # n too low: behind the second row's TURNS the GOOD is to come in fewer beats.
        self.refused(put(KEPT, (1, 1, 1, 0, 0), 1), "leads", (1, 0, 2), at(2, 2))
        self.refused(put(KEPT, (1, 1, 1, 1, 0), 2), "leads", (1, 1, 2), at(2, 2))
        self.refused(put(KEPT, (1, 3, 1, 1, 0), 1), "leads", (3, 1, 0), at(2, 2))
        # Greater ones are let by, as long as what leads to them has more.
        self.let("kept", put(KEPT, (1, 1, 1, 1, 0), BIG), at(2, 2))
        self.refused(put(KEPT, (1, 4, 1, 1, 0), 2), "leads", (3, 1, 0), at(2, 2))

    def test_leads_only_by_the_good_that_comes(self):
        # The leaf comes, the tool doesn't: what the tool's duty has to lead to must have it sooner.
        self.refused(put(KEPT, (1, 0, 1, 1, 1, 0), (copied(2),)), "leads", (0, 1, 0), at(2, 2))
        self.let("kept", put(put(KEPT, (1, 0, 1, 1, 1, 0), (copied(2),)), (1, 0, 1, 1, 0), 4), at(2, 2))

    def test_leads_behind_all_rows(self):
        bad = put(KEPT, (1, 0, 1, 0, 1, 0), ())
        self.refused(bad, "leads", (0, 0, 0), at(2, 2))
        self.refused(put(bad, (1, 4, 1, 1, 1, 0), (None,)), "turn", (4, 1, 0), at(2, 2))
        self.refused(put(bad, (1, 4, 1), ()), "goods", 4, at(2, 2))
        # Ahead of what is asked for.
        self.refused(bad, "leads", (0, 0, 0), void_stand(HAND))

    def test_no_stand_that_falls(self):
        """Whatever rows: what a checker lets by is KEPT."""
        for stand in all_stands(HAND)[::61]:
            told = keep_told(HAND, stand, KEPT)
            if told == "kept":
                self.let("kept", KEPT, stand)
                self.assertTrue(is_kept(HAND, stand))
            else:
                self.refused(KEPT, *told, stand)


class Lost(Case):
    def test_let_by(self):
        for stand in (LONE, USED, at(2), at(), at(rest=1), ((1,), ((),), 0, (), 1, 2), ((0,), ((),), 0, (), 1, 0)):
            self.let("lost", LOST, stand)
            self.assertFalse(is_kept(HAND, stand))

    def test_other_rows(self):
        self.let("lost", ("lost", LOST_ROWS[::-1]), LONE)
        self.let("lost", ("lost", LOST_ROWS * 2), LONE)
        for good in (LEAF, TOOL):
            for n in (0, 1, 7, BIG):
                self.let("lost", ("lost", ((USED, n, good, None),)), USED)
                self.let("lost", ("lost", ((LONE, n + 1, good, ("leaf", "a", 3)), (USED, n, LEAF, None))), LONE)
        # Of the same n it has to be the same GOOD.
        for good in (LEAF, TOOL):
            self.let("lost", ("lost", ((LONE, 0, good, ("leaf", "a", 3)), (USED, 0, good, None))), LONE)
        self.refused(("lost", ((LONE, 0, TOOL, ("leaf", "a", 3)), (USED, 0, LEAF, None))), "leads", 0, LONE)

    def test_asked(self):
        for stand in (at(3, rest=1), at(0, 0), changed(USED, 5, 3), at(2, 2)):
            self.refused(LOST, "asked", -1, stand)
        self.refused(("lost", ()), "asked", -1, at())

    def test_stand(self):
        for thing in ODD + [at(4), at(1, 2), at(2, rest=4), [*at()], ((True,), ((),), 0, (), 1, 0)]:
            self.refused(("lost", LOST_ROWS + ((thing, 0, LEAF, None),)), "stand", 2, LONE)
            self.refused(("lost", ((thing, None, None, True),)), "stand", 0, LONE)

    def test_number(self):
        for n in ODD:
            if n.__class__ is int and n >= 0:
                continue
            self.refused(put(LOST, (1, 1, 1), n), "number", 1, LONE)
            self.refused(("lost", ((LONE, n, None, True),) + LOST_ROWS), "number", 0, LONE)

    def test_good(self):
        for good in ODD + [("leaf", "b"), ("tool", "A"), ["leaf", "a"], ("leaf", "a", 0), ("leaf",), ("a", "leaf"),
                           None, True]:
            self.refused(put(LOST, (1, 0, 2), good), "good", 0, LONE)
            self.refused(put(LOST, (1, 1, 2), good), "good", 1, LONE)
            self.refused(("lost", ((LONE, 0, good, True),) + LOST_ROWS), "good", 0, LONE)

    def test_way(self):
        for way in [thing for thing in ODD if thing is not None] + [
            ("leaf", "a", 2), ("leaf", "a", 0), ("stuff",), ("making", 0), ("leaf", "b", 3), ("leaf", "a", "3"),
            ["leaf", "a", 3], ("leaf", "a"), ("leaf", "a", 3, 0), ("strike", ("leaf", "a", 3)), "stuff",
            ("making", False),
        ]:
            self.refused(put(LOST, (1, 0, 3), way), "way", 0, LONE)
        # Where rest isn't 0 there is but None.
        self.refused(put(LOST, (1, 1, 3), ("tool", "a")), "way", 1, LONE)
        bright = at(1)
        self.refused(("lost", ((bright, 1, TOOL, ("leaf", "a", True)), LOST_ROWS[1])), "way", 0, bright)
        self.let("lost", ("lost", ((bright, 1, TOOL, ("leaf", "a", 1)), LOST_ROWS[1])), bright)
        making = ((0,), ((),), 0, ((TOOL, 1),), 1, 0)
        self.refused(("lost", ((making, 1, TOOL, ("making", False)), LOST_ROWS[1])), "way", 0, making)
        self.let("lost", ("lost", ((making, 1, TOOL, ("making", 0)), LOST_ROWS[1])), making)

    def test_first_of_several(self):
        rows = ((LONE, None, TOOL, None), (None, 0, LEAF, None))
        self.refused(("lost", rows), "number", 0, LONE)
        self.refused(("lost", rows[::-1]), "stand", 0, LONE)
        self.refused(("lost", ((LONE, 0, TOOL, None), (USED, 0, None, True))), "good", 1, LONE)
        self.refused(("lost", ((LONE, 0, TOOL, True), (USED, 0, None, True))), "way", 0, LONE)

    def test_leads(self):
        # Not struck, the lone leaf is copied, or read.
        self.refused(put(LOST, (1, 0, 3), None), "leads", 0, LONE)
        self.refused(put(LOST, (1, 0, 3), ("tool", "a")), "leads", 0, LONE)
        # n too low, a row left out.
        self.refused(put(LOST, (1, 0, 1), 0), "leads", 0, LONE)
        self.refused(put(LOST, (1, 1, 1), 1), "leads", 0, LONE)
        self.refused(("lost", LOST_ROWS[:1]), "leads", 0, LONE)
        self.let("lost", ("lost", LOST_ROWS[1:]), USED)
        # Behind all rows, ahead of what is asked for.
        self.refused(("lost", LOST_ROWS[:1] + (LOST_ROWS[0][:3] + (True,),)), "way", 1, LONE)
        self.refused(("lost", LOST_ROWS[:1]), "leads", 0, at(2, 2))
        self.refused(("lost", (LOST_ROWS[1],) + (LOST_ROWS[0][:1] + (0,) + LOST_ROWS[0][2:],)), "leads", 1, LONE)

    def test_the_same_good_that_comes(self):
        # A making ENDs: of the same n the GOOD that COMES is no way out, the other one is.
        stand = ((0,), ((),), 0, ((TOOL, 1),), 1, 1)
        behind = ((1,), ((),), 0, (), 1, 0)
        for good, n, told in ((TOOL, 0, "leads"), (LEAF, 0, None), (TOOL, 1, None), (LEAF, 1, None)):
            rows = ((stand, n, good, None), (behind, 0, good, None))
            if told is None:
                self.let("lost", ("lost", rows), stand)
            else:
                self.refused(("lost", rows), "leads", 0, stand)


class Changed(Case):
    def test_one_word_alone(self):
        """[58], (M4): of one STAND papers of one word alone are let by."""
        stands = all_stands(HAND)[::61] + [LONE, USED] + [stand for stand, _ in KEPT_ROWS]
        told = {"kept": 0, "lost": 0}
        for stand in stands:
            words = [word for word, paper in (("kept", KEPT), ("lost", LOST)) if keep_told(HAND, stand, paper) == word]
            self.assertLessEqual(len(words), 1)
            for word in words:
                told[word] += 1
                self.assertIs(is_kept(HAND, stand), word == "kept")
        self.assertGreaterEqual(min(told.values()), 2)

    def looked(self, plant, stand, thing):
        told = keep_told(plant, stand, thing)
        if told.__class__ is str:
            self.assertEqual(lets_kept(plant, stand, thing), told, thing)
        else:
            self.refused(thing, *told, stand, plant)
        return told if told.__class__ is str else told[0]

    def test_numbers_one_more_one_less(self):
        """Each NUMBER in both papers changed a little: as the plainest way tells."""
        seen = set()

        def numbers(thing, place=()):
            if thing.__class__ is int:
                return [place]
            if thing.__class__ is tuple:
                return [there for k, part in enumerate(thing) for there in numbers(part, place + (k,))]
            return []

        for paper, stand in ((KEPT, at(2, 2)), (LOST, LONE)):
            for place in numbers(paper):
                part = part_at(paper, place)
                for other in (part + 1, part - 1, bool(part), None, part + 7):
                    seen.add(self.looked(HAND, stand, put(paper, place, other)))
        self.assertGreaterEqual(seen, {"kept", "lost", "stand", "goods", "turn", "leads", "number", "good", "way"}
                                - {"good", "asked"})

    def test_papers_of_other_works(self):
        for plant in (SMALL, TINY, DRIPS, PLANT, MIXED, changed(HAND, 5, (1, 2)), changed(HAND, 2, (2, 0, 2))):
            for paper in (KEPT, LOST):
                self.looked(plant, full_stand(plant), paper)

    def test_asked_of_all_in_a_web(self):
        for stand in whole_web(HAND, full_stand(HAND))[::3]:
            kept = any(is_no_less(stand, row[0]) for row in KEPT_ROWS)
            lost = any(is_no_less(row[0], stand) for row in LOST_ROWS)
            if kept:
                self.let("kept", KEPT, stand)
            else:
                self.refused(KEPT, "asked", -1, stand)
            if lost:
                self.let("lost", LOST, stand)
            else:
                self.refused(LOST, "asked", -1, stand)


if __name__ == "__main__":
    unittest.main()
