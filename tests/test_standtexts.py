"""Points [35], [36]: STANDS as texts, written and read."""

import re
import unittest

from handsmade.errors import NoText
from handsmade.standchecker import is_right_stand
from handsmade.standrows import run
from handsmade.stands import full_stand, void_stand
from handsmade.standtexts import stand_read, stand_text
from plain import all_stands
from samples import BIG, MILL, PLANT, TINY
from walks import walks

TOLD = ((3, 0), ((2, 1), ()), 2, ((("leaf", "pen", 1), 1), (("tool", "cup"), 2)), 1, 0)
TEXT = "3,0 2.1,- 2 leaf.pen.1:1,tool.cup:2 1 0"
NUMBER = "(0|[1-9][0-9]{0,59})"
LIGHTS = f"(-|{NUMBER}([.]{NUMBER})*)"
MAKING = f"(tool[.][a-z]{{1,8}}|leaf[.][a-z]{{1,8}}[.]{NUMBER}):{NUMBER}"
WORDS = [
    f"{NUMBER}(,{NUMBER})*", f"{LIGHTS}(,{LIGHTS})*", NUMBER, f"(-|{MAKING}(,{MAKING})*)", NUMBER, NUMBER,
]


def first_wrong(text):
    """The number of the first word that can't stand, by patterns; None of a text that writes a STAND."""
    words = text.split(" ")
    for at, (pattern, word) in enumerate(zip(WORDS, words)):
        if not re.fullmatch(pattern, word):
            return at
    return None if len(words) == 6 else min(len(words), 6)


class Texts(unittest.TestCase):
    def read(self, text, stand):
        self.assertEqual(stand_read(text), stand, text)
        self.assertEqual(repr(stand_read(text)), repr(stand))
        self.assertEqual(stand_text(stand), text)

    def refused(self, text, word):
        with self.assertRaises(NoText) as caught:
            stand_read(text)
        self.assertEqual((caught.exception.line, caught.exception.word), (0, word), text)
        self.assertEqual([part.__class__ for part in (caught.exception.line, caught.exception.word)], [int, int])

    def with_word(self, at, word):
        words = TEXT.split(" ")
        words[at] = word
        return " ".join(words)


class Written(Texts):
    def test_told(self):
        self.assertEqual(stand_text(TOLD), TEXT)
        self.assertEqual(stand_text(stand=TOLD), TEXT)
        self.assertEqual(stand_read(TEXT), TOLD)
        self.assertEqual(stand_read(text=TEXT), TOLD)

    def test_void_and_full(self):
        self.read("0 - 0 - 2 0", void_stand(TINY))
        self.read("0,0 -,- 0 - 3 0", void_stand(PLANT))
        self.read("2 1.1 2 - 1 1", full_stand(TINY, phase=1, rest=1))
        self.read("3,3 2.2.2.2,2.2.2.2 6 - 2 3", full_stand(PLANT, phase=2, rest=3))

    def test_all_of_a_little_works(self):
        texts = set()
        for stand in all_stands(TINY):
            text = stand_text(stand)
            self.assertEqual(stand_read(text), stand)
            texts.add(text)
        self.assertEqual(len(texts), len(all_stands(TINY)))

    def test_stands_on_the_way_of_rows(self):
        for plant, stand, row in walks((TINY, PLANT, MILL), 24, range(8)):
            for there in run(plant, stand, row)[0]:
                text = stand_text(there)
                self.assertIsNone(first_wrong(text))
                self.assertEqual(stand_read(text), there)
                self.assertEqual(stand_text(stand_read(text)), text)


class ReadByKindAlone(Texts):
    def test_what_is_right_for_no_works(self):
        self.read("0 0 0 - 0 0", ((0,), ((0,),), 0, (), 0, 0))
        self.read("1,2,3 - 7 tool.no:0 99 100", ((1, 2, 3), ((),), 7, ((("tool", "no"), 0),), 99, 100))

    def test_lights_that_rise_and_makings_that_fall(self):
        self.read(self.with_word(1, "1.2,-"), (TOLD[0], ((1, 2), ()), *TOLD[2:]))
        self.read(self.with_word(1, "0.0.7.3"), (TOLD[0], ((0, 0, 7, 3),), *TOLD[2:]))
        self.read(
            self.with_word(3, "tool.cup:2,leaf.pen.1:1,tool.cup:2"),
            (*TOLD[:3], ((("tool", "cup"), 2), (("leaf", "pen", 1), 1), (("tool", "cup"), 2)), 1, 0),
        )

    def test_sixty_figures(self):
        for at, word, stand in (
            (0, f"{BIG},0", ((BIG, 0), *TOLD[1:])), (1, f"{BIG}.0,-", (TOLD[0], ((BIG, 0), ()), *TOLD[2:])),
            (2, str(BIG), (*TOLD[:2], BIG, *TOLD[3:])), (4, str(BIG), (*TOLD[:4], BIG, 0)), (5, str(BIG), (*TOLD[:5], BIG)),
            (3, f"leaf.a.{BIG}:{BIG}", (*TOLD[:3], ((("leaf", "a", BIG), BIG),), 1, 0)),
        ):
            self.read(self.with_word(at, word), stand)

    def test_names(self):
        for name in ("a", "z", "abcdefgh", "tool", "leaf"):
            self.read(self.with_word(3, f"tool.{name}:3"), (*TOLD[:3], ((("tool", name), 3),), 1, 0))
            self.read(self.with_word(3, f"leaf.{name}.0:3"), (*TOLD[:3], ((("leaf", name, 0), 3),), 1, 0))

    def test_real_readings_have_their_kinds(self):
        told = stand_read("1 0.0 0 leaf.a.0:1 1 1")
        self.assertEqual(repr(told), "((1,), ((0, 0),), 0, ((('leaf', 'a', 0), 1),), 1, 1)")
        self.assertTrue(is_right_stand(TINY, told))
        self.assertFalse(is_right_stand(TINY, stand_read("3 0.0 0 leaf.a.0:1 1 1")))


class Refused(Texts):
    def test_each_word(self):
        more = "1" + "0" * 60
        numbers = ["", "-", "00", "01", "-1", "+1", "1.", "1_0", "a", "1a", "0x1", "one", "None", "True", more, "1:1"]
        for at in (2, 4, 5):
            for word in numbers + ["1,1", "1.1", ",", "."]:
                self.refused(self.with_word(at, word), at)
        for word in numbers + ["1,", ",1", ",", "1,,1", "1,-", "1,01", "1.1", "1;1", f"1,{more}"]:
            self.refused(self.with_word(0, word), 0)
        for word in (
            "", "1,", ",1", ",", "1,,1", "1..1", ".1", "1.", "1.-", "-.1", "--", "-1", "01", "1.00", "a", "1.a", more,
            f"1.{more}", "-,", "1,1.", "1;1", "1:1",
        ):
            self.refused(self.with_word(1, word), 1)

    def test_makings(self):
        more = "1" + "0" * 60
        for word in (
            "", "--", "-,-", "-,tool.a:1", "tool.a:1,-", "tool.a:1,", ",tool.a:1", "tool.a", "tool.a:", "tool:1", "tool.:1",
            "tool.a.1:1", "leaf.a:1", "leaf.a.:1", "leaf.a.1", "leaf.a.1:", "leaf.a.1.1:1", "leaf..1:1", ".a:1", "a:1",
            "tools.a:1", "Tool.a:1", "tool.A:1", "tool.abcdefghi:1", "leaf.abcdefghi.1:1", "tool.a1:1", "tool.1:1",
            "tool.a:01", "tool.a:-1", "tool.a:x", "leaf.a.01:1", "leaf.a.x:1", "leaf.a.-:1", f"tool.a:{more}",
            f"leaf.a.{more}:1", f"leaf.a.1:{more}", "tool.a:1:1", "tool.a:1;tool.a:1", "tool.a:1.tool.a:1", "stuff:1", ":1",
            "leaf.a.1:1,tool.a", "copy.a.1:1", "tool.a_b:1", "1", "tool.a.:1", "tool:a.1", "leaf.1.a:1",
        ):
            self.refused(self.with_word(3, word), 3)

    def test_words_that_lack(self):
        words = TEXT.split(" ")
        for many in range(1, 6):
            self.refused(" ".join(words[:many]), many)

    def test_the_void_text(self):
        self.refused("", 0)

    def test_a_word_more(self):
        for more in (" 0", " ", " a", "  ", " 0 0", " " + TEXT):
            self.refused(TEXT + more, 6)

    def test_blanks(self):
        self.refused(" " + TEXT, 0)
        for at in range(1, 6):
            words = TEXT.split(" ")
            words.insert(at, "")
            self.refused(" ".join(words), at)

    def test_the_first_word_goes(self):
        words = TEXT.split(" ")
        for first in range(6):
            for second in range(first, 6):
                wrong = [word + "!" if at in (first, second) else word for at, word in enumerate(words)]
                self.refused(" ".join(wrong), first)
                # One that is there and can't stand goes ahead of one more, and of one that lacks.
                self.refused(" ".join(wrong + ["0"]), first)
                if first < 5:
                    self.refused(" ".join(wrong[:5]), first)
                self.refused(" ".join(wrong[:first + 1]), first)

    def test_line_ends_and_other_signs(self):
        for text in (TEXT + "\n", "\n" + TEXT, TEXT.replace(" ", "\n")):
            self.refused(text, first_wrong(text))
        self.refused(TEXT + "\n", 5)
        self.refused("\n" + TEXT, 0)

    def test_each_sign_otherwise(self):
        for text in (TEXT, "0 - 0 - 1 0", "12,0,3 1.0,-,0 10 leaf.a.1:1,leaf.a.1:1 3 2"):
            signs = "01a-.,: !A\n"
            texts = [text[:k] + text[k + 1:] for k in range(len(text))]
            texts += [text[:k] + sign + text[k:] for k in range(len(text) + 1) for sign in signs]
            texts += [text[:k] + sign + text[k + 1:] for k in range(len(text)) for sign in signs]
            for other in texts:
                word = first_wrong(other)
                if word is None:
                    self.assertEqual(stand_text(stand_read(other)), other)
                else:
                    self.refused(other, word)


if __name__ == "__main__":
    unittest.main()
