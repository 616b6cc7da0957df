"""Points [3], [4], [5], [10]: what a GOOD, a DEED and a STRIKE are by kind."""

import unittest

from handsmade.acts import is_deed, is_good, is_strike
from samples import BIG, ODD, changed
from test_kinds import NO_NUMBERS, NO_WORDS, NUMBERS, WORDS, Telling

NO_LIGHTS = [
    (), (0,), (3,), (0, 1), (1, 2), (2, 1, 2), (3, 1, 2), [], [1, 0], [0, 0], (True, False), (1, False), (True, 0),
    (1, -1), (1, None), (1, "0"), (1, (0,)), ((1, 0),), 0, 1, True, None, "1,0", "",
]
LIGHTS = [(0, 0), (1, 0), (1, 1), (3, 2), (BIG, 0), (2, 1, 0), (2, 2, 2), (3, 3, 1, 1, 0)]


class Goods(Telling):
    def test_goods(self):
        for what in ("tool", "leaf"):
            for name in WORDS:
                self.yes(is_good, (what, name))
            for name in NO_WORDS:
                self.no(is_good, (what, name))

    def test_no_goods(self):
        for what in ("", "tools", "Tool", "stuff", "kind", "a", True, 1, None, ("tool",), ["tool"]):
            self.no(is_good, (what, "a"))
        for thing in (["tool", "a"], ("tool",), ("leaf", "a", 1), ("tool", "a", "a"), ("a", "tool"), ("leaf", 1)):
            self.no(is_good, thing)
        for odd in ODD:
            self.assertIs(is_good(odd), False)


class Deeds(Telling):
    def test_make_and_copy(self):
        for word in ("make", "copy"):
            for light in NUMBERS:
                self.yes(is_deed, (word, "a", light))
            for light in NO_NUMBERS + [(1, 0), (2, 2)]:
                self.no(is_deed, (word, "a", light))
            self.forms(is_deed, (word, "a", 1))

    def test_agree(self):
        for lights in LIGHTS:
            self.yes(is_deed, ("agree", "a", lights))
        for lights in NO_LIGHTS:
            self.no(is_deed, ("agree", "a", lights))
        self.forms(is_deed, ("agree", "a", (1, 0)))

    def test_break(self):
        for j in NUMBERS:
            self.yes(is_deed, ("break", j))
        for j in NO_NUMBERS:
            self.no(is_deed, ("break", j))
        self.forms(is_deed, ("break", 0))

    def test_names(self):
        for sample in (("make", "a", 0), ("copy", "a", 3), ("agree", "a", (3, 3))):
            for name in WORDS:
                self.yes(is_deed, changed(sample, 1, name))
            for name in NO_WORDS:
                self.no(is_deed, changed(sample, 1, name))

    def test_words_of_deeds(self):
        for word in ("beat", "strike", "tool", "leaf", "Make", "", "a", True, None, 1, ("make",), ["make"]):
            self.no(is_deed, (word, "a", 1))
            self.no(is_deed, (word, "a", (1, 0)))
            self.no(is_deed, (word, 0))
        for thing in (("beat",), ("break", "a", 0), ("make", 0), ("copy", "a"), ("agree", (1, 0)), ("tool", "a")):
            self.no(is_deed, thing)

    def test_agreed_left_out_or_none_is_two_or_more(self):
        for many in range(6):
            for deed in (("agree", "a", (0,) * many), ("agree", "a", tuple(range(many))[::-1])):
                self.assertIs(is_deed(deed), many >= 2)
                self.assertIs(is_deed(deed, agreed=None), many >= 2)

    def test_agreed_tells_how_many_lights(self):
        for agreed in (2, 3, 4, 5):
            for many in range(7):
                self.assertIs(is_deed(("agree", "a", (1,) * many), agreed=agreed), many == agreed)
            for lights in NO_LIGHTS:
                self.no(is_deed, ("agree", "a", lights), agreed=agreed)
            for deed in (("make", "a", 1), ("copy", "a", 0), ("break", 7)):
                self.yes(is_deed, deed, agreed=agreed)

    def test_agreed_is_told_by_its_name_alone(self):
        with self.assertRaises(TypeError):
            is_deed(("agree", "a", (1, 0)), 2)
        self.assertIs(is_deed(agreed=2, thing=("agree", "a", (1, 0))), True)


class Strikes(Telling):
    def test_strikes(self):
        for name in WORDS:
            self.yes(is_strike, ("tool", name))
            for light in NUMBERS:
                self.yes(is_strike, ("leaf", name, light))
        for j in NUMBERS:
            self.yes(is_strike, ("making", j))
        self.yes(is_strike, ("stuff",))

    def test_wrong_places(self):
        for name in NO_WORDS:
            self.no(is_strike, ("tool", name))
            self.no(is_strike, ("leaf", name, 1))
        for number in NO_NUMBERS:
            self.no(is_strike, ("leaf", "a", number))
            self.no(is_strike, ("making", number))

    def test_forms(self):
        for sample in (("tool", "a"), ("leaf", "a", 2), ("making", 0), ("stuff",)):
            self.forms(is_strike, sample)

    def test_words_of_strikes(self):
        for thing in (
            ("leaf", "a"), ("tool", "a", 1), ("tool", 0), ("making", "a"), ("making",), ("stuff", 1), ("stuff", "a"),
            ("leaf",), ("tool",), ("strike",), ("making", "a", 1), ("Stuff",), ("",), (True,), (None,), (("stuff",),),
        ):
            self.no(is_strike, thing)


if __name__ == "__main__":
    unittest.main()
