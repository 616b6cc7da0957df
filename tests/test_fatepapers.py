"""Points [42], [43]: papers of how often leaves can be read, told and looked at."""

import unittest

from bunches import bunches, closure, endless, fate_told
from handsmade.errors import NoMore, NoPaper
from handsmade.fatechecker import lets_fate
from handsmade.fatepapers import fate_paper
from handsmade.fates import most_of
from samples import BIG, ODD, changed
from test_fates import SIZES
from test_kinds import NO_NUMBERS

WORDS = ("make", "copy")
# Of one leaf of light 1, many 3, bright 1.
MOST = ("most", (("make", 1),), (((0, 0), 0), ((1,), 1)))
ENDLESS = ("endless", (("copy", 1),), (("agree", (0, 0)), ("copy", 1)))


class Told(unittest.TestCase):
    def test_let_by_and_tells_what_most_of_tells(self):
        for many, bright in SIZES + [(5, 2), (7, 2)]:
            for lights in bunches(bright, 5)[::1 if bright == 1 else 3]:
                for word in WORDS:
                    paper = fate_paper(lights, word, many=many, bright=bright)
                    told = lets_fate(lights, word, paper, many=many, bright=bright)
                    self.assertEqual(told, most_of(lights, word, many=many, bright=bright))
                    self.assertEqual(paper[0], "endless" if endless(lights, word, many, bright) else "most")
                    self.assertEqual([part.__class__ for part in paper], [str, tuple, tuple])

    def test_by_names(self):
        paper = fate_paper(bright=1, many=3, word="make", lights=(1,), most=2000)
        self.assertEqual(lets_fate(bright=1, many=3, thing=paper, word="make", lights=(1,)), 1)
        with self.assertRaises(TypeError):
            fate_paper((1,), "make", 3, 1)
        with self.assertRaises(TypeError):
            lets_fate((1,), "make", paper, 3, 1)

    def test_no_more(self):
        for many, bright in SIZES:
            for lights in bunches(bright, 4)[::2]:
                for word in WORDS:
                    if endless(lights, word, many, bright):
                        self.assertEqual(fate_paper(lights, word, many=many, bright=bright, most=0)[0], "endless")
                        continue
                    count = len(closure([lights], many, bright))
                    for most in {count, count + 1, 2000}:
                        self.assertEqual(fate_paper(lights, word, many=many, bright=bright, most=most)[0], "most")
                    for most in {count - 1, 0}:
                        with self.assertRaises(NoMore) as caught:
                            fate_paper(lights, word, many=many, bright=bright, most=most)
                        self.assertEqual(caught.exception.many, most)

    def test_most_is_left_out(self):
        with self.assertRaises(NoMore) as caught:
            fate_paper((3,) * 5, "copy", many=9, bright=3)
        self.assertEqual(caught.exception.many, 2000)
        self.assertEqual(fate_paper((2,) * 5, "copy", many=5, bright=2)[0], "most")

    def test_a_paper_is_of_one_sort_alone(self):
        """Whatever "most" paper is let by, its n is MOST OFTEN: papers of other BUNCHES, and changed ones."""
        some = [lights for lights in bunches(2, 3)]
        for many in (3, 4, 5):
            for word in WORDS:
                told = {lights: most_of(lights, word, many=many, bright=2) for lights in some}
                papers = [fate_paper(lights, word, many=many, bright=2) for lights in some]
                for lights in some:
                    for paper in papers:
                        try:
                            self.assertEqual(lets_fate(lights, word, paper, many=many, bright=2), told[lights])
                        except NoPaper:
                            pass


class Looked(unittest.TestCase):
    def tells(self, thing, told, lights=(1,), word="make", many=3, bright=1):
        self.assertEqual(lets_fate(lights, word, thing, many=many, bright=bright), told, thing)

    def refused(self, thing, word, at, lights=(1,), name="make", many=3, bright=1):
        with self.assertRaises(NoPaper) as caught:
            lets_fate(lights, name, thing, many=many, bright=bright)
        self.assertEqual((caught.exception.word, caught.exception.at), (word, at), thing)

    def test_let_by(self):
        self.tells(MOST, 1)
        self.tells(("most", (), (((0,), 0),)), 0, lights=(0,))
        self.tells(("most", (), (((), 0),)), 0, lights=())
        self.assertIsNone(lets_fate((1,), "copy", ENDLESS, many=2, bright=1))

    def test_more_than_needed_is_let_by(self):
        self.tells(("most", (("make", 1),), (((), 0), ((0,), 0), ((0, 0), 0), ((1,), 1))), 1)
        self.tells(("most", (("make", 1),), (((), 9), ((0,), 4), ((0, 0), 0), ((1,), 1), ((1,), 2))), 1)

    def test_pairs_of_greater_bunches(self):
        # All dark: whatever many are fewer than "agree" takes lead nowhere.
        for pairs in ((((0, 0), 0),), (((0,), 0), ((0, 0), 0)), (((0,), 3), ((0, 0), 0))):
            self.tells(("most", (), pairs), 0, lights=(0,))

    def test_papers_of_other_bunches(self):
        wide = fate_paper((1, 1), "make", many=5, bright=1)
        self.assertEqual(most_of((1, 0), "make", many=5, bright=1), 1)
        # One of a greater BUNCH, with a row that the lesser one can do, too: only its n has to be the lesser's.
        self.tells(("most", (("make", 1),), wide[2]), 1, lights=(1, 0), many=5)
        self.refused(("most", (), wide[2]), "first", -1, lights=(1, 0), many=5)
        self.refused(wide, "row", 1, lights=(1, 0), many=5)

    def test_shape(self):
        for thing in ODD + [
            list(MOST), MOST[:2], MOST + ((),), (MOST,), ("Most", *MOST[1:]), ("most", [], MOST[2]), ("most", (), [((), 0)]),
            ("most", (), (((),),)), ("most", (), (((), 0, 0),)), ("most", (), ([(), 0],)), ("most", (), 0), ("most", 0, ()),
            ("most", (), ((), 0)), ("most", (), (0,)), ("endless", [], ()), ("endless", (), []), ("endless", ()),
            ("endless", (), (), ()), ("endless", None, ()), (True, (), ()), (None, (), ()), ("", (), ()), ("make", (), ()),
            (("most",), (), ()), ("endless", (), "copy"), ("most", "", ()),
        ]:
            self.refused(thing, "shape", -1)
        for odd in NO_NUMBERS:
            self.refused(("most", (), (((1,), odd),)), "shape", -1)
            self.refused(("most", ((7, 7),), ((5, 0), ((1,), odd))), "shape", -1)

    def test_any_thing_stands_in_rows_and_for_bunches(self):
        for odd in ODD:
            self.refused(("most", (odd,), ()), "row", 0)
            self.refused(("endless", (odd,), ()), "row", 0)
            if odd != () and odd != (1,) or odd and odd[0].__class__ is bool:
                self.refused(("most", (), ((odd, 0),)), "bunch", 0)

    def test_row_of_most(self):
        for wrong in (
            ("make", 0), ("make", 2), ("make", BIG), ("make", True), ("make", -1), ("make", "1"), ("make", (1,)), ["make", 1],
            ("make",), ("make", 1, 1), ("read", 1), ("make", "cup", 1), ("break", 0), ("agree", (0, 0, 0)), ("agree", (1, 0)),
            ("agree", ()), ("agree", [0, 0, 0]), ("copy", 0), ("copy", False), ("beat",), None, 7,
        ):
            self.refused(("most", (wrong,), MOST[2]), "row", 0)
            self.refused(("most", (("copy", 1), wrong, wrong), ((9, 0),)), "row", 1)

    def test_agree_in_a_row(self):
        three = ("agree", (0, 0, 0))
        self.tells(("most", (three, ("make", 1)), (((0, 0), 0), ((0, 0, 0), 1), ((1,), 1))), 1, lights=(0, 0, 0))
        for lights in ((0, 0), (0, 0, 0, 0), (1, 0, 0), (0, 0, False), [0, 0, 0], (0, 0, -1), (0, 0, True)):
            self.refused(("most", (("agree", lights),), ()), "row", 0, lights=(0, 0, 0))
        self.refused(("most", (("agree", (0, 0, 1)),), ()), "row", 0, lights=(1, 0, 0))

    def test_bunches(self):
        for wrong in ((2,), (BIG,), (0, 1), (1, True), (False,), (1, -1), [1], None, 0, True, "", (None,), ((0,),), (1, "0")):
            self.refused(("most", (("make", 1),), ((wrong, 1),)), "bunch", 0)
            self.refused(("most", (("make", 1),), (((0, 0), 0), (wrong, 1), (5, 5))), "bunch", 1)
        self.refused(("most", (("make", 1),), (((0, 0), 0), ((1,), 1), ((2, 0), 5))), "bunch", 2)

    def test_rise(self):
        for pairs, k in (
            ((((1,), 1), ((0, 0), 0)), 1), ((((0, 0), 0), ((0, 0), 0), ((1,), 1)), 1),
            ((((0, 0), 0), ((1,), 1), ((1,), 1)), 2), ((((0, 0), 1), ((0, 0), 0), ((1,), 1)), 1),
        ):
            self.refused(("most", (("make", 1),), pairs), "rise", k)
        # Pair by pair: what doesn't rise goes ahead of a later one that is no BUNCH.
        self.refused(("most", (), (((1,), 1), ((0,), 0), (7, 0))), "rise", 1)
        self.refused(("most", (), (((1,), 1), (7, 0), ((0,), 0))), "bunch", 1)

    def test_first(self):
        for pairs in ((), (((0, 0), 0),), (((0, 0), 0), ((1,), 2)), (((0, 0), 1),), (((1,), 2), ((1, 1), 5))):
            self.refused(("most", (("make", 1),), pairs), "first", -1)
        self.refused(("most", (), MOST[2]), "first", -1)
        self.refused(("most", (("copy", 1),), MOST[2]), "first", -1)

    def test_step(self):
        # Of (1,) "copy" is number 0 and leads to (0, 0), "make" is number 1 and leads to (0,).
        self.refused(("most", (("make", 1),), (((1,), 1),)), "step", (0, 0))
        self.refused(("most", (("make", 1),), (((0,), 0), ((1,), 1))), "step", (1, 0))
        self.refused(("most", (("make", 1),), (((0, 0), 1), ((1,), 1))), "step", (1, 1))
        self.refused(("most", (), (((0, 0), 0), ((1,), 0))), "step", (1, 1))
        self.refused(("most", (("make", 1),), (((0, 0), 2), ((1,), 1))), "step", (1, 0))
        self.refused(("most", (("make", 1),), (((0, 0), 0), ((1,), 1), ((1, 1), 2))), "step", (2, 0))

    def test_the_word_asked_for_counts(self):
        self.refused(MOST, "first", -1, name="copy")
        self.tells(("most", (("copy", 1),), MOST[2]), 1, word="copy")

    def test_row_of_endless(self):
        for k in range(3):
            for wrong in (
                ("make", 2), ("copy", 0), ("agree", (1, 1)), ("agree", (0,)), ("copy", True), ("agree", (False, False)), 7, None,
            ):
                things = changed(ENDLESS[1] + ENDLESS[2], k, wrong)
                for cut in range(4):
                    self.refused(("endless", things[:cut], things[cut:]), "row", k, name="copy", many=2)

    def test_word_of_endless(self):
        self.refused(ENDLESS, "word", -1, many=2)
        self.refused(("endless", ENDLESS[1], ()), "word", -1, name="copy", many=2)
        self.refused(("endless", ENDLESS[1] + ENDLESS[2], ()), "word", -1, name="copy", many=2)
        # It goes ahead of a ring that leads to less.
        self.refused(("endless", (), (("make", 1),)), "word", -1, name="copy", many=2)

    def test_less_of_endless(self):
        self.refused(("endless", (), (("make", 1),)), "less", -1, many=2)
        self.refused(("endless", (), (("copy", 1),)), "less", -1, name="copy", many=2)
        self.refused(("endless", (), (("copy", 1), ("agree", (0, 0)), ("copy", 1))), "less", -1, name="copy", many=2)
        self.tells(("endless", (), (("copy", 1), ("agree", (0, 0)))), None, word="copy", many=2)
        self.tells(("endless", ENDLESS[1] * 1, ENDLESS[2] * 3), None, word="copy", many=2)

    def test_a_ring_may_lead_to_more(self):
        ring = (("agree", (0, 0)), ("copy", 2), ("copy", 1))
        self.tells(("endless", (), ring), None, lights=(0, 0), word="copy", many=2, bright=2)
        self.refused(("endless", (), ring), "word", -1, lights=(0, 0), many=2, bright=2)

    def test_several_due(self):
        self.refused(("most", (("make", 9),), ((5, 0),)), "row", 0)
        self.refused(("most", (), ((5, 0), ((9,), 0))), "bunch", 0)
        self.refused(("most", (), (((0,), 0), ((0,), 0))), "rise", 1)
        self.refused(("most", (), (((0,), 0), ((1,), 5))), "first", -1)
        self.refused(("most", (("make", 1),), (((1,), 0), ((1,), 1))), "step", (0, 0))
        self.refused(("endless", (("make", 9),), (7,)), "row", 0, name="copy")

    def test_changed_papers(self):
        """Papers changed at each place tell what the plainest checker tells; what is let by is so."""
        for lights, word, many, bright in (
            ((1,), "make", 3, 1), ((1, 1), "copy", 4, 1), ((2, 0), "make", 4, 2), ((1, 1, 0), "make", 2, 1),
            ((1, 0), "copy", 2, 1), ((2,), "make", 3, 2), ((0, 0, 0), "copy", 3, 2), ((2, 1), "copy", 5, 2),
        ):
            paper = fate_paper(lights, word, many=many, bright=bright)
            most = most_of(lights, word, many=many, bright=bright)
            for thing in self.changes(paper):
                told = fate_told(lights, word, thing, many, bright)
                if told.__class__ is tuple:
                    self.refused(thing, *told, lights=lights, name=word, many=many, bright=bright)
                else:
                    self.tells(thing, told, lights=lights, word=word, many=many, bright=bright)
                    self.assertEqual(told, most)

    def changes(self, paper):
        yield paper
        name, row, rest = paper
        for k in range(len(row) + 1):
            yield name, row[:k], rest
            for deed in (("make", 1), ("copy", 1), ("copy", 2), ("agree", (0, 0)), ("make", True)):
                yield name, row[:k] + (deed,) + row[k:], rest
                yield name, row[:k] + (deed,) + row[k + 1:], rest
        for k in range(len(rest)):
            yield name, row, rest[:k] + rest[k + 1:]
            yield name, row, rest[:k] + (rest[k],) + rest[k:]
            if name == "most":
                bunch, number = rest[k]
                for other in ((bunch, number + 1), (bunch, max(0, number - 1)), (bunch[1:], number), (bunch + (0,), number)):
                    yield name, row, changed(rest, k, other)
        yield ("endless" if name == "most" else "most"), row, ()


if __name__ == "__main__":
    unittest.main()
