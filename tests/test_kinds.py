"""Points [2], [3], [10]: what a NUMBER, a WORD, a KIND and a WORKS with its parts are."""

import copy
import unittest

from handsmade.kinds import (
    is_agreeing, is_bounds, is_copying, is_foe, is_kind, is_number, is_spring, is_word, is_works,
)
from samples import AGREEING, BIG, BOUNDS, COPYING, FOE, ODD, SPRING, changed, kind, works

NO_NUMBERS = [True, False, -1, -BIG, None, "", "1", "a", (), (1,), [], [1]]
NO_NUMBERS_FROM_1 = NO_NUMBERS + [0]
NO_NUMBERS_FROM_2 = NO_NUMBERS_FROM_1 + [1]
NO_WORDS = [
    "", "abcdefghi", "A", "aB", "Ab", "a1", "1", "a ", " a", "a b", "a-b", "a_b", "a\n", "`", "{", "a~",
    True, 1, None, (), ("a",), ["a"],
]
WORDS = ["a", "z", "pen", "abcdefgh", "tool"]
NO_ASKS = [
    "", "a", None, True, 0, [], [("a", 1)], ("a", 1), ("a",), (("a",),), (("a", 1, 1),), (["a", 1],), ((),),
    (("a", 0),), (("a", -1),), (("a", True),), (("a", None),), (("a", "1"),), (("a", (1,)),),
    (("A", 1),), (("", 1),), (("abcdefghi", 1),), ((1, "a"),), ((True, 1),),
    (("b", 1), ("a", 1)), (("a", 1), ("a", 1)), (("a", 1), ("a", 2)), (("a", 2), ("a", 1)),
    (("a", 1), ("c", 1), ("b", 1)), (("a", 1), ("b", 0)), (("a", 1), "b"), (("a", 1), 1),
]
ASKS = [(), (("a", 1),), (("a", BIG),), (("a", 2), ("b", 1)), (("a", 1), ("ab", 1), ("b", 7), ("z", 2))]
NUMBERS = [0, 1, 2, 7, BIG]
NUMBERS_FROM_1 = NUMBERS[1:]
NUMBERS_FROM_2 = NUMBERS[2:]


class Telling(unittest.TestCase):
    def yes(self, told, thing, **more):
        self.assertIs(told(thing, **more), True, repr(thing)[:200])

    def no(self, told, thing, **more):
        self.assertIs(told(thing, **more), False, repr(thing)[:200])

    def places(self, told, sample, rights, wrongs):
        """A thing of its kind; then place by place others that fit, and others that don't."""
        self.yes(told, sample)
        for at, (right, wrong) in enumerate(zip(rights, wrongs)):
            for other in right:
                self.yes(told, changed(sample, at, other))
            for other in wrong:
                self.no(told, changed(sample, at, other))
        self.forms(told, sample)

    def forms(self, told, sample):
        """A list in the tuple's place, one item more, one less, and what is no such thing at all."""
        self.no(told, list(sample))
        self.no(told, sample[:-1])
        self.no(told, sample[1:])
        for more in (0, 1, None, (), sample[-1]):
            self.no(told, sample + (more,))
        self.no(told, (sample,))
        for odd in ODD:
            self.no(told, odd)


class Numbers(Telling):
    def test_numbers(self):
        for thing in (0, 1, 2, 9, 10, 2000, BIG):
            self.yes(is_number, thing)

    def test_no_numbers(self):
        for thing in NO_NUMBERS:
            self.no(is_number, thing)

    def test_truths_are_no_numbers(self):
        self.no(is_number, True)
        self.no(is_number, False)

    def test_of_any_thing(self):
        for thing in ODD:
            told = thing.__class__ is int and thing >= 0
            self.assertIs(is_number(thing), told)
            self.assertIs(is_number(thing=thing), told)


class Words(Telling):
    def test_words(self):
        for many in range(1, 9):
            self.yes(is_word, "abcdefgh"[:many])
        for sign in "abcdefghijklmnopqrstuvwxyz":
            self.yes(is_word, sign)

    def test_no_words(self):
        for thing in NO_WORDS:
            self.no(is_word, thing)

    def test_each_other_sign_is_none_of_a_word(self):
        others = [chr(k) for k in range(32, 127) if not "a" <= chr(k) <= "z"] + ["\n"]
        for sign in others:
            for text in (sign, "a" + sign, sign + "a", "a" + sign + "b"):
                self.no(is_word, text)

    def test_of_any_thing(self):
        for thing in ODD:
            self.assertIs(is_word(thing), thing in ("a", "tool", "leaf", "stuff", "make"))


class Kinds(Telling):
    def test_kind_place_by_place(self):
        self.places(
            is_kind, ("pen", (("cup", 2), ("pen", 1)), 3, 2, 4, 1),
            [WORDS, ASKS, [1, 2, BIG], NUMBERS_FROM_1, NUMBERS_FROM_1, [0, 1, 2, 3]],
            [NO_WORDS, NO_ASKS, NO_NUMBERS, NO_NUMBERS_FROM_1, NO_NUMBERS_FROM_1, NO_NUMBERS + [4, BIG]],
        )

    def test_back_is_no_greater_than_takes(self):
        for takes in range(4):
            for back in range(6):
                self.assertIs(is_kind(("a", (), takes, 1, 1, back)), back <= takes)
        self.yes(is_kind, ("a", (), BIG, 1, 1, BIG))
        self.no(is_kind, ("a", (), BIG - 1, 1, 1, BIG))

    def test_by_name_of_the_argument(self):
        self.assertIs(is_kind(thing=kind("a")), True)


class Copyings(Telling):
    def test_copying_place_by_place(self):
        self.places(
            is_copying, ((("pen", 1),), 1, 2),
            [ASKS, NUMBERS, NUMBERS_FROM_1], [NO_ASKS, NO_NUMBERS, NO_NUMBERS_FROM_1],
        )

    def test_without_asks(self):
        self.yes(is_copying, ((), 0, 1))


class Agreeings(Telling):
    def test_agreeing_place_by_place(self):
        self.places(
            is_agreeing, (3, 1, 2),
            [NUMBERS_FROM_2, NUMBERS, NUMBERS_FROM_1], [NO_NUMBERS_FROM_2, NO_NUMBERS, NO_NUMBERS_FROM_1],
        )


class BoundsOfAWorks(Telling):
    def test_bounds_place_by_place(self):
        self.places(
            is_bounds, (3, 2, 1, 6),
            [NUMBERS_FROM_1, NUMBERS_FROM_2, NUMBERS_FROM_1, NUMBERS],
            [NO_NUMBERS_FROM_1, NO_NUMBERS_FROM_2, NO_NUMBERS_FROM_1, NO_NUMBERS],
        )

    def test_sheets_are_from_least_on(self):
        for least in (0, 1, 2, 5, BIG):
            for sheets in (0, 1, 2, 3, 4, 5, 6, BIG):
                self.assertIs(is_bounds((1, sheets, 1, 0), least=least), sheets >= least)
            for sheets in NO_NUMBERS:
                self.no(is_bounds, (1, sheets, 1, 0), least=least)

    def test_least_is_two_where_it_is_left_out(self):
        for sheets in range(5):
            self.assertIs(is_bounds((1, sheets, 1, 0)), sheets >= 2)

    def test_least_is_told_by_its_name_alone(self):
        with self.assertRaises(TypeError):
            is_bounds((1, 2, 1, 0), 2)
        self.assertIs(is_bounds(least=0, thing=(1, 0, 1, 0)), True)


class SpringsAndFoes(Telling):
    def test_spring_place_by_place(self):
        self.places(is_spring, (1, 2), [NUMBERS, NUMBERS_FROM_1], [NO_NUMBERS, NO_NUMBERS_FROM_1])

    def test_foe_place_by_place(self):
        self.places(is_foe, (2, 3), [NUMBERS_FROM_1] * 2, [NO_NUMBERS_FROM_1] * 2)

    def forms(self, told, sample):
        """As for others, but that a pair of NUMBERS is one of the odd things."""
        for thing in (list(sample), sample[:-1], sample + (1,), (sample,), ()):
            self.no(told, thing)
        for odd in ODD:
            self.assertIs(told(odd), odd == (1, 2))


class WholeOrNot(Telling):
    def test_works_place_by_place(self):
        kinds = (kind("cup"), kind("pen", "cup"))
        right = [
            [(kind("a"),), kinds[:1], kinds[1:], kinds, tuple(kind(word) for word in "abcdefghijk")],
            [((asks, 0, 1)) for asks in ASKS],
            [(2, 0, 1), (2, BIG, BIG)],
            [(1, 2, 1, 0), (BIG, BIG, BIG, BIG), (7, 6, 4, 9)],
            [(0, 1), (BIG, BIG)],
            [(1, 1), (BIG, BIG)],
            NUMBERS_FROM_1,
        ]
        wrong = [
            [(), list(kinds), kinds[::-1], kinds[:1] * 2, kind("a"), (kinds,), (list(kinds[0]),), (kinds[0], "pen"),
             (kind("cup"), kind("cup", takes=2)), (kind("a", takes=1), kind("a", takes=2)),
             (kind("a"), kind("c"), kind("b")), (kind("a", gives=True),), (kind("a", takes=1, back=2),), None, 1],
            [list(COPYING), ((), 1), ((), 1, 0), ((("a", 0),), 1, 1), ([], 1, 1), (), None, True],
            [list(AGREEING), (1, 0, 1), (2, 0, 0), (True, 0, 1), (2, 0), (), None, True],
            [list(BOUNDS), (0, 2, 1, 6), (3, 1, 1, 6), (3, 2, 0, 6), (3, 2, 1, -1), (3, 2, True, 6), (3, 2, 1), None],
            [list(SPRING), (1, 0), (-1, 1), (True, 1), (1, 1, 1), (1,), None],
            [list(FOE), (0, 1), (1, 0), (1, True), (1, 1, 1), (1,), None],
            NO_NUMBERS_FROM_1,
        ]
        self.places(is_works, works(*kinds, asks=("pen",)), right, wrong)

    def test_sheets_are_no_less_than_agreeings_many(self):
        sample = works(kind("a"))
        for many in range(2, 6):
            for sheets in range(8):
                thing = changed(changed(sample, 2, (many, 0, 1)), 3, (1, sheets, 1, 0))
                self.assertIs(is_works(thing), sheets >= many)

    def test_asks_may_name_what_is_not_there(self):
        self.yes(is_works, works(kind("a", "b")))
        self.yes(is_works, works(kind("a"), asks=("b",)))

    def test_beyond_the_usual_bounds(self):
        self.yes(is_works, works(*[kind(word, "a", "z", takes=BIG, back=BIG) for word in "abcdefghijklmnop"]))

    def test_nothing_handed_in_is_changed(self):
        thing = [list(works(kind("a", "b"))), ["a", [("b", 1)]]]
        ahead = copy.deepcopy(thing)
        for told in (is_works, is_kind, is_bounds, is_copying, is_number, is_word, is_agreeing, is_spring, is_foe):
            self.no(told, thing)
        self.assertEqual(thing, ahead)


if __name__ == "__main__":
    unittest.main()
