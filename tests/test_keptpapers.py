"""Points [55] to [58]: papers of what is KEPT, and of what is lost."""

import unittest

from handsmade.bounds import MOST
from handsmade.errors import NoPaper
from handsmade.kept import is_kept
from handsmade.keptchecker import lets_kept
from handsmade.keptpapers import kept_paper
from handsmade.order import is_no_less
from handsmade.stands import full_stand, void_stand
from handsmade.webs import whole_web
from papers import changes, keep_told
from plain import some_stands
from samples import ASKED, DRIPS, FALLING, MILL, NEEDY, PAIR, SLOW, SMALL, TINY, TWINS, refusal

LITTLE = (TINY, SMALL, ASKED, DRIPS, SLOW, NEEDY, FALLING)


class Papers(unittest.TestCase):
    def test_told_is_let_by(self):
        told = {"kept": 0, "lost": 0}
        for plant in LITTLE:
            for stand in some_stands(plant, 12):
                paper = kept_paper(plant, stand)
                self.assertEqual(paper[0], "kept" if is_kept(plant, stand) else "lost")
                self.assertEqual(lets_kept(plant, stand, paper), paper[0], stand)
                self.assertEqual(keep_told(plant, stand, paper), paper[0], stand)
                self.assertIs(paper.__class__, tuple)
                told[paper[0]] += 1
        self.assertGreater(min(told.values()), 10)

    def test_of_each_in_a_web(self):
        for plant in (SMALL, FALLING):
            for stand in whole_web(plant, full_stand(plant))[::6]:
                paper = kept_paper(plant, stand)
                self.assertEqual(lets_kept(plant, stand, paper), "kept" if is_kept(plant, stand) else "lost")

    def test_of_two_kinds(self):
        for stand in (
            ((1, 1), ((2, 2), (2, 2)), 0, (), 1, 0), ((0, 0), ((2, 1), (2, 1)), 0, (), 1, 0),
            ((1, 1), ((2, 2), (1, 0)), 0, (), 1, 0), ((0, 1), ((2, 1), (0, 0)), 0, (), 1, 5),
        ):
            paper = kept_paper(TWINS, stand)
            self.assertEqual(lets_kept(TWINS, stand, paper), paper[0])
            self.assertEqual(paper[0], "kept" if is_kept(TWINS, stand) else "lost")
        paper = kept_paper(PAIR, full_stand(PAIR))
        self.assertEqual((lets_kept(PAIR, full_stand(PAIR), paper), paper[0]), ("lost", "lost"))
        self.assertEqual(keep_told(PAIR, full_stand(PAIR), paper), "lost")

    def test_no_more(self):
        for plant, stand in ((SMALL, full_stand(SMALL)), (TINY, full_stand(TINY)), (SMALL, void_stand(SMALL, rest=3))):
            many = len(whole_web(plant, stand))
            paper = kept_paper(plant, stand)
            self.assertEqual(kept_paper(works=plant, stand=stand, most=many)[0], paper[0])
            self.assertEqual(lets_kept(plant, stand, kept_paper(plant, stand, most=many)), paper[0])
            for most in (many - 1, 0):
                self.assertEqual(refusal(kept_paper, plant, stand, most=most), ("NoMore", most))
        self.assertEqual(refusal(kept_paper, MILL, full_stand(MILL)), ("NoMore", MOST))
        with self.assertRaises(TypeError):
            kept_paper(SMALL, full_stand(SMALL), 2000)

    def test_rows_put_together(self):
        """[58]: the rows of two papers of one word, put together, are one of both their STANDS."""
        for plant in (SMALL, ASKED, DRIPS):
            papers = {"kept": [], "lost": []}
            for stand in some_stands(plant, 14):
                paper = kept_paper(plant, stand)
                papers[paper[0]].append((stand, paper[1]))
            for word, told in papers.items():
                self.assertGreater(len(told), 1)
                for one, rows in told:
                    for other, more in told[::3]:
                        both = (word, rows + more)
                        self.assertEqual(lets_kept(plant, one, both), word)
                        self.assertEqual(lets_kept(plant, other, both), word)

    def test_of_others(self):
        """[58], (M4): a paper tells of what is NO LESS, or NO MORE; it never is let by of what it isn't so of."""
        for plant in (SMALL, NEEDY):
            stands = some_stands(plant, 60)
            kept = {stand: is_kept(plant, stand) for stand in stands}
            for stand in stands[::7]:
                paper = kept_paper(plant, stand)
                for other in stands:
                    told = refusal(lets_kept, plant, other, paper)
                    if is_no_less(other, stand) and kept[stand] or is_no_less(stand, other) and not kept[stand]:
                        self.assertIsNone(told)
                    if told is None:
                        self.assertIs(kept[other], kept[stand])
                    else:
                        self.assertEqual(told, ("NoPaper", -1, "asked"))

    def test_changed_papers(self):
        """Places of papers changed in many ways: as the plainest way tells."""
        seen = {}
        for plant, stand, step in (
            (SMALL, full_stand(SMALL), 9), (SMALL, ((1,), ((0, 0, 0),), 0, (), 1, 1), 1), (TINY, full_stand(TINY), 3),
            (DRIPS, ((1,), ((3, 3),), 0, (), 1, 0), 13), (DRIPS, ((1,), ((2,),), 1, (), 1, 1), 1),
            (SLOW, full_stand(SLOW), 17), (PAIR, full_stand(PAIR), 3),
        ):
            paper = kept_paper(plant, stand)
            for thing in changes(paper, 8, step):
                told = keep_told(plant, stand, thing)
                try:
                    self.assertEqual(lets_kept(plant, stand, thing), told, thing)
                except NoPaper as refused:
                    self.assertEqual((refused.word, refused.at), told, thing)
                word = told if told.__class__ is str else paper[0] + " " + told[0]
                seen[word] = seen.get(word, 0) + 1
        self.assertGreaterEqual(set(seen), {
            "kept", "lost", "kept shape", "kept stand", "kept goods", "kept turn", "kept leads", "lost shape",
            "lost stand", "lost number", "lost good", "lost way", "lost leads", "lost asked",
        })


if __name__ == "__main__":
    unittest.main()
