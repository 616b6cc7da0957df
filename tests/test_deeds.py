"""Points [4], [27], [28], [29]: by what a DEED is BARRED, the STAND behind it, and all that can be DONE."""

import unittest

from handsmade.deeds import barred_by, deeds_at, done
from handsmade.errors import NoDeed
from handsmade.order import is_no_less
from handsmade.standchecker import is_right_stand
from handsmade.stands import full_stand, void_stand
from plain import Plain, all_stands, deed_list, falling
from samples import BIG, MILL, MIXED, PLANT, TINY, changed

CUP = ("tool", "cup")
PEN = ("tool", "pen")
# A STAND at which each of the DEEDS that makes something can be DONE for "cup".
STAND = ((1, 2), ((2, 1, 0, 0), (1,)), 5, ((PEN, 1),), 2, 1)
DEEDS = {
    "make": ("make", "cup", 2), "copy": ("copy", "cup", 2), "agree": ("agree", "cup", (2, 1, 0)), "break": ("break", 0),
}


class Barred(unittest.TestCase):
    def barred(self, word, deed, stand=STAND, plant=PLANT):
        self.assertEqual(barred_by(plant, stand, deed), word, (deed, stand))
        if word is None:
            self.assertTrue(is_right_stand(plant, done(plant, stand, deed)))
        else:
            with self.assertRaises(NoDeed) as caught:
                done(plant, stand, deed)
            self.assertIs(caught.exception.deed, deed)
            self.assertEqual(caught.exception.why, word)

    def test_not_barred(self):
        for deed in DEEDS.values():
            self.barred(None, deed)
        self.assertIsNone(barred_by(works=PLANT, stand=STAND, deed=DEEDS["make"]))

    def test_kind(self):
        for name in ("no", "cu", "cups", "penpenpe", "a"):
            for deed in (("make", name, 2), ("copy", name, 2), ("agree", name, (2, 1, 0))):
                self.barred("kind", deed)

    def test_making(self):
        for j in (1, 2, BIG):
            self.barred("making", ("break", j))
        self.barred("making", ("break", 0), void_stand(PLANT))
        full = changed(STAND, 3, ((PEN, 1), (PEN, 1)))
        for j in (0, 1):
            self.barred(None, ("break", j), full)
        self.barred("making", ("break", 2), full)

    def test_bench(self):
        full = changed(STAND, 3, ((PEN, 1), (PEN, 1)))
        for word in ("make", "copy", "agree"):
            self.barred("bench", DEEDS[word], full)
            self.barred("bench", DEEDS[word], plant=changed(PLANT, 6, 1))
            self.barred(None, DEEDS[word], full, changed(PLANT, 6, 3))
        self.barred(None, DEEDS["break"], full)

    def test_leaf_of_make_and_copy(self):
        for word in ("make", "copy"):
            for name, light in (("cup", 0), ("cup", 3), ("cup", BIG), ("pen", 2), ("pen", 0)):
                self.barred("leaf", (word, name, light))
            self.barred(None, (word, "cup", 1))
            self.barred("leaf", (word, "cup", 1), changed(STAND, 1, ((), (1,))))

    def test_lights_of_agree(self):
        for lights in ((2, 1, 0), (2, 0, 0), (1, 0, 0)):
            self.barred(None, ("agree", "cup", lights))
        for lights in (
            (2, 2, 0), (2, 1, 1), (0, 0, 0), (3, 1, 0), (BIG, 1, 0),
            # Too few, too many; a row that doesn't fall.
            (2, 1), (0, 0), (2, 1, 0, 0), (), (2,), (0, 1, 2), (2, 0, 1), (0, 2, 0), (1, 2, 0),
        ):
            self.barred("leaf", ("agree", "cup", lights))
        self.barred("leaf", ("agree", "pen", (1, 0, 0)))

    def test_agree_takes_dark_leaves(self):
        dark = changed(STAND, 1, ((0, 0, 0), ()))
        self.barred(None, ("agree", "cup", (0, 0, 0)), dark)
        self.barred("leaf", ("agree", "cup", (0, 0, 0)), changed(STAND, 1, ((0, 0), ())))

    def test_tool(self):
        # "make" of a cup asks one pen; "copy" one cup and two pens; "agree" asks nothing.
        self.barred("tool", DEEDS["make"], changed(STAND, 0, (3, 0)))
        self.barred(None, DEEDS["make"], changed(STAND, 0, (0, 1)))
        self.barred(None, ("make", "pen", 1), changed(STAND, 0, (0, 0)))
        for uses in ((0, 3), (3, 1), (3, 0), (0, 0)):
            self.barred("tool", DEEDS["copy"], changed(STAND, 0, uses))
        self.barred(None, DEEDS["copy"], changed(STAND, 0, (1, 2)))
        self.barred(None, DEEDS["agree"], changed(STAND, 0, (0, 0)))

    def test_stuff(self):
        for word, takes in (("make", 3), ("copy", 1), ("agree", 2)):
            self.barred(None, DEEDS[word], changed(STAND, 2, takes))
            self.barred("stuff", DEEDS[word], changed(STAND, 2, takes - 1))
        self.barred(None, DEEDS["break"], changed(STAND, 2, 0))

    def test_the_first_of_two(self):
        faults = {
            "kind": None, "bench": (3, ((PEN, 1), (PEN, 1))), "leaf": (1, ((), ())), "tool": (0, (0, 0)),
            "stuff": (2, 0),
        }
        words = list(faults)
        for sort in ("make", "copy", "agree"):
            for k, first in enumerate(words):
                for second in words[k + 1:]:
                    if sort == "agree" and "tool" in (first, second):
                        continue
                    deed = changed(DEEDS[sort], 1, "no") if first == "kind" else DEEDS[sort]
                    stand = STAND
                    for word in (first, second):
                        if word != "kind":
                            stand = changed(stand, *faults[word])
                    self.barred(first, deed, stand)

    def test_break_asks_for_no_kind_nor_bench(self):
        self.barred("making", ("break", 2), changed(STAND, 3, ((PEN, 1), (PEN, 1))))
        self.barred("making", ("break", 1), ((0, 0), ((), ()), 0, ((PEN, 1),), 1, 0), changed(PLANT, 6, 1))

    def test_numbers_beyond_all_bounds(self):
        for deed in (("make", "pen", BIG), ("copy", "cup", BIG), ("agree", "cup", (BIG,) * 3)):
            self.barred("leaf", deed)
        self.barred("leaf", ("agree", "cup", tuple(range(500))[::-1]))
        self.barred("kind", ("copy", "zzzzzzzz", BIG))


class Done(unittest.TestCase):
    def done(self, deed, *told):
        stand = STAND
        for at, part in told:
            stand = changed(stand, at, part)
        self.assertEqual(done(PLANT, STAND, deed), stand, deed)

    def test_make(self):
        self.done(("make", "cup", 2), (0, (1, 1)), (1, ((1, 1, 0, 0), (1,))), (2, 2), (3, ((CUP, 2), (PEN, 1))))
        self.done(("make", "cup", 1), (0, (1, 1)), (1, ((2, 0, 0, 0), (1,))), (2, 2), (3, ((CUP, 2), (PEN, 1))))
        self.done(("make", "pen", 1), (1, ((2, 1, 0, 0), (0,))), (2, 4), (3, ((PEN, 1), (PEN, 1))))

    def test_copy(self):
        making = (("leaf", "cup", 1), 3)
        self.done(("copy", "cup", 2), (0, (0, 0)), (1, ((1, 1, 0, 0), (1,))), (2, 4), (3, (making, (PEN, 1))))
        making = (("leaf", "cup", 0), 3)
        self.done(("copy", "cup", 1), (0, (0, 0)), (1, ((2, 0, 0, 0), (1,))), (2, 4), (3, (making, (PEN, 1))))
        making = (("leaf", "pen", 0), 3)
        self.done(("copy", "pen", 1), (0, (0, 0)), (1, ((2, 1, 0, 0), (0,))), (2, 4), (3, (making, (PEN, 1))))

    def test_agree(self):
        making = (("leaf", "cup", 2), 2)
        self.done(("agree", "cup", (2, 1, 0)), (1, ((0,), (1,))), (2, 3), (3, (making, (PEN, 1))))
        self.done(("agree", "cup", (1, 0, 0)), (1, ((2,), (1,))), (2, 3), (3, (making, (PEN, 1))))

    def test_break(self):
        self.done(("break", 0), (3, ()))
        pair = ((("leaf", "pen", 0), 2), (CUP, 1))
        stand = changed(STAND, 3, pair)
        for j in (0, 1):
            self.assertEqual(done(PLANT, stand, ("break", j)), changed(STAND, 3, (pair[1 - j],)))

    def test_break_one_of_two_alike(self):
        stand = changed(STAND, 3, ((CUP, 2), (CUP, 2)))
        for j in (0, 1):
            self.assertEqual(done(PLANT, stand, ("break", j)), changed(STAND, 3, ((CUP, 2),)))

    def test_a_making_goes_in_its_order(self):
        for there in ((("leaf", "cup", 0), 1), (("leaf", "cup", 1), 1), (("leaf", "cup", 1), 3), (("leaf", "pen", 2), 1),
                      (CUP, 1), (CUP, 2), (PEN, 1)):
            stand = changed(STAND, 3, (there,))
            for word, making in (
                ("make", (CUP, 2)), ("copy", (("leaf", "cup", 1), 3)), ("agree", (("leaf", "cup", 2), 2)),
            ):
                self.assertEqual(done(PLANT, stand, DEEDS[word])[3], tuple(sorted((there, making))))

    def test_nothing_handed_in_is_changed(self):
        plant, stand, deed = PLANT, STAND, DEEDS["copy"]
        told = repr((plant, stand, deed))
        done(works=plant, stand=stand, deed=deed)
        self.assertEqual(repr((plant, stand, deed)), told)


class AllDeeds(unittest.TestCase):
    def stands(self):
        for stand in all_stands(TINY)[::5]:
            yield TINY, stand
        for plant in (PLANT, MILL, MIXED):
            many = len(plant[0])
            uses, sheets, bright, store = plant[3]
            for k, lights in enumerate(falling(range(bright + 1), sheets) + falling(range(bright + 1), 2) + [()]):
                leaves = (lights,) + ((bright, 0), ())[:many - 1]
                for j, row in enumerate(((), ((("tool", plant[0][0][0]), 1),), ((("tool", plant[0][1][0]), 1),) * 2)):
                    numbers = tuple((k + j + place) % (uses + 1) for place in range(many))
                    yield plant, (numbers, leaves, (k * 2 + j) % (store + 1), row, 1, 0)

    def test_against_going_through_all(self):
        for plant, stand in self.stands():
            self.assertTrue(is_right_stand(plant, stand), stand)
            told = []
            for deed in deed_list(plant, names=[one[0] for one in plant[0]] + ["no"]):
                plain = Plain(plant, stand)
                why = plain.barred(deed)
                self.assertEqual(barred_by(plant, stand, deed), why, (stand, deed))
                if why is None:
                    plain.do(deed)
                    behind = done(plant, stand, deed)
                    self.assertEqual(behind, plain.stand(), (stand, deed))
                    self.assertTrue(is_right_stand(plant, behind), (stand, deed))
                    told.append(deed)
            self.assertEqual(deeds_at(plant, stand), tuple(told), stand)

    def test_deeds_at_of_some(self):
        self.assertEqual(deeds_at(PLANT, void_stand(PLANT)), ())
        self.assertEqual(deeds_at(works=PLANT, stand=full_stand(PLANT)), (
            ("agree", "cup", (2, 2, 2)), ("agree", "pen", (2, 2, 2)), ("copy", "cup", 2), ("copy", "pen", 2),
            ("make", "cup", 2), ("make", "pen", 2),
        ))
        self.assertEqual(deeds_at(PLANT, STAND), (
            ("agree", "cup", (1, 0, 0)), ("agree", "cup", (2, 0, 0)), ("agree", "cup", (2, 1, 0)), ("break", 0),
            ("copy", "cup", 1), ("copy", "cup", 2), ("copy", "pen", 1),
            ("make", "cup", 1), ("make", "cup", 2), ("make", "pen", 1),
        ))
        full = changed(STAND, 3, ((CUP, 1), (PEN, 1)))
        self.assertEqual(deeds_at(PLANT, full), (("break", 0), ("break", 1)))


class MoreNeverHarms(unittest.TestCase):
    """[29], over pairs of STANDS of which one is NO LESS."""

    def broken_ways(self, stand):
        """The STAND, and those behind one "break" or more."""
        found = [stand]
        for there in found:
            found += [done(TINY, there, ("break", j)) for j in range(len(there[3]))]
        return found

    def follows(self, stand, other, deed):
        """Whether the one can follow the other's deed as told."""
        behind = done(TINY, other, deed)
        if deed[0] == "break":
            ways = [stand] + [done(TINY, stand, ("break", j)) for j in range(len(stand[3]))]
            return any(is_no_less(way, behind) for way in ways)
        for way in self.broken_ways(stand):
            for like in deeds_at(TINY, way):
                if like[:2] == deed[:2] and like[0] != "break":
                    if deed[0] == "agree":
                        no_less_light = all(map(int.__ge__, like[2], deed[2]))
                    else:
                        no_less_light = like[2] >= deed[2]
                    if no_less_light and is_no_less(done(TINY, way, like), behind):
                        return True
        return False

    def test_what_is_done_at_the_less_can_be_followed(self):
        stands = [stand for stand in all_stands(TINY) if stand[4:] == (1, 0)]
        for other in stands[::7]:
            deeds = deeds_at(TINY, other)
            for stand in stands[::11]:
                if is_no_less(stand, other):
                    for deed in deeds:
                        self.assertTrue(self.follows(stand, other, deed), (stand, other, deed))


if __name__ == "__main__":
    unittest.main()
