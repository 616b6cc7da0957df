"""Point [20]: a WORKS read from any text, or refused at its first word that can't stand."""

import unittest

from handsmade.errors import NoText
from handsmade.kinds import is_works
from handsmade.worksreading import works_read
from handsmade.workstexts import works_text
from samples import BIG

LINES = [
    "benches 2",
    "agreeing 2 0 1",
    "bounds 3 2 1 6",
    "spring 1 2",
    "foe 1 3",
    "copying 1 2 cup 1 pen 2",
    "kind cup 2 1 1 1",
    "kind pen 3 1 2 0 cup 1 ink 2 pen 1",
]
WORKS = (
    (("cup", (), 2, 1, 1, 1), ("pen", (("cup", 1), ("ink", 2), ("pen", 1)), 3, 1, 2, 0)),
    ((("cup", 1), ("pen", 2)), 1, 2), (2, 0, 1), (3, 2, 1, 6), (1, 2), (1, 3), 2,
)
# Of each line that has NUMBERS alone the least that each may be, and of the others those that always stand.
LEASTS = {0: (1,), 1: (2, 0, 1), 2: (1, 2, 1, 0), 3: (0, 1), 4: (1, 1), 5: (0, 1)}


class Reading(unittest.TestCase):
    def refuses(self, text, line, word):
        with self.assertRaises(NoText) as told:
            works_read(text)
        self.assertEqual((told.exception.line, told.exception.word), (line, word), text)
        self.assertEqual((told.exception.line.__class__, told.exception.word.__class__), (int, int))

    def refuses_line(self, line, text, word):
        """This text in the place of a line is refused at a word of it."""
        self.refuses("\n".join(LINES[:line] + [text] + LINES[line + 1:]), line, word)

    def reads_line(self, line, text):
        """This text in the place of a line is read, and written as the same."""
        whole = "\n".join(LINES[:line] + [text] + LINES[line + 1:])
        told = works_read(whole)
        self.assertTrue(is_works(told))
        self.assertEqual(works_text(told), whole)

    def words_changed(self, line, at, word):
        words = LINES[line].split(" ")
        return " ".join(words[:at] + [word] + words[at + 1:])

    def test_a_works(self):
        self.assertEqual(works_read("\n".join(LINES)), WORKS)
        self.assertEqual(works_read(text="\n".join(LINES)), WORKS)
        self.assertEqual(works_read("\n".join(LINES[:7])), (WORKS[0][:1],) + WORKS[1:])

    def test_numbers_are_no_truths(self):
        told = works_read("\n".join(LINES))
        self.assertIs(told[6].__class__, int)
        self.assertIs(told[4][0].__class__, int)
        self.assertIs(told[0].__class__, tuple)
        self.assertIs(told[0][1][1].__class__, tuple)

    def test_the_void_text(self):
        self.refuses("", 0, 0)
        self.refuses(" ", 0, 0)
        self.refuses("\n", 0, 0)

    def test_lines_that_lack(self):
        for many in range(1, 7):
            self.refuses("\n".join(LINES[:many]), many, 0)

    def test_a_line_ahead_goes_ahead_of_lines_that_lack(self):
        self.refuses("benches", 0, 1)
        self.refuses("benches 2\nagreeing 2 0", 1, 3)
        self.refuses("benches 0", 0, 1)

    def test_a_line_more(self):
        whole = "\n".join(LINES)
        self.refuses(whole + "\n", 8, 0)
        self.refuses(whole + "\n\n", 8, 0)
        self.refuses(whole + "\nbenches 2", 8, 0)
        self.refuses(whole + "\nkind", 8, 1)
        self.refuses(whole + "\nkind oil 1 1 1 0", 8, 1)
        self.refuses("\n" + whole, 0, 0)
        self.refuses("\n".join(LINES[:3] + [""] + LINES[3:]), 3, 0)
        self.assertEqual(len(works_read(whole + "\nkind z 1 1 1 0")[0]), 3)

    def test_lines_in_another_order(self):
        for line in range(7):
            rows = list(LINES)
            rows[line], rows[line + 1] = rows[line + 1], rows[line]
            self.refuses("\n".join(rows), *((7, 1) if line == 6 else (line, 0)))

    def test_heads(self):
        for line, text in enumerate(LINES):
            head = text.split(" ")[0]
            for other in ("", "x", head + "s", head[:-1], head.upper(), "1", "-"):
                self.refuses_line(line, self.words_changed(line, 0, other), 0)

    def test_a_word_that_lacks(self):
        for line in range(6):
            words = LINES[line].split(" ")
            for many in range(1, len(LEASTS[line]) + 1):
                self.refuses_line(line, " ".join(words[:many]), many)
        words = LINES[7].split(" ")
        for many in range(1, 6):
            self.refuses_line(7, " ".join(words[:many]), many)
        for line in range(8):
            self.refuses_line(line, "", 0)

    def test_a_word_more(self):
        for line in range(5):
            many = len(LINES[line].split(" "))
            for word in ("1", "a", "", "-"):
                self.refuses_line(line, LINES[line] + " " + word, many)
                self.refuses_line(line, LINES[line] + " " + word + " x", many)
        self.refuses_line(6, "kind cup 2 1 1 1 7", 6)
        self.refuses_line(5, "copying 1 2 7", 3)

    def test_blanks(self):
        for line, text in enumerate(LINES):
            words = text.split(" ")
            self.refuses_line(line, " " + text, 0)
            self.refuses_line(line, text + " ", len(words))
            for at in range(1, len(words)):
                self.refuses_line(line, " ".join(words[:at]) + "  " + " ".join(words[at:]), at)

    def test_words_that_are_no_numbers(self):
        for line, leasts in LEASTS.items():
            for at in range(1, len(leasts) + 1):
                for word in ("", "a", "-1", "+1", "01", "00", "1.", "1,", "1a", "a1", "1_0", "0x1", "-", "1" * 61):
                    self.refuses_line(line, self.words_changed(line, at, word), at)
        for at in (2, 3, 4, 5, 7, 9):
            for word in ("", "a", "-1", "01", "1.0", "00", "1" * 61):
                self.refuses_line(7, self.words_changed(7, at, word), at)

    def test_least_numbers(self):
        for line, leasts in LEASTS.items():
            for at, least in enumerate(leasts, 1):
                self.reads_line(line, self.words_changed(line, at, str(least)))
                for number in range(least):
                    self.refuses_line(line, self.words_changed(line, at, str(number)), at)
        for at, least in ((3, 1), (4, 1), (7, 1), (9, 1), (11, 1)):
            self.reads_line(7, self.words_changed(7, at, str(least)))
            self.refuses_line(7, self.words_changed(7, at, "0"), at)
        self.reads_line(7, self.words_changed(7, 2, "0"))
        self.reads_line(7, self.words_changed(7, 5, "0"))
        for at in (4, 6):
            self.refuses_line(5, self.words_changed(5, at, "0"), at)

    def test_sixty_figures(self):
        for line, places in ((0, (1,)), (1, (2, 3)), (2, (1, 2, 3, 4)), (3, (1, 2)), (4, (1, 2)), (5, (1, 2, 4, 6)),
                             (7, (2, 3, 4, 7, 9, 11))):
            for at in places:
                self.reads_line(line, self.words_changed(line, at, str(BIG)))
                self.reads_line(line, self.words_changed(line, at, "1" + "0" * 59))
                self.refuses_line(line, self.words_changed(line, at, str(BIG + 1)), at)
                self.refuses_line(line, self.words_changed(line, at, "0" * 60), at)

    def test_sheets_no_less_than_many(self):
        for many in (2, 3, 4, 11):
            for sheets in (0, 1, 2, 3, 4, 5, 10, 11, 12):
                rows = list(LINES)
                rows[1] = f"agreeing {many} 0 1"
                rows[2] = f"bounds 3 {sheets} 1 6"
                if sheets >= many:
                    self.assertEqual(works_read("\n".join(rows))[3], (3, sheets, 1, 6))
                else:
                    self.refuses("\n".join(rows), 2, 2)

    def test_back_no_more_than_takes(self):
        for takes in (0, 1, 2, 10):
            for back in (0, 1, 2, 3, 9, 10, 11):
                text = f"kind pen {takes} 1 1 {back}"
                if back <= takes:
                    self.reads_line(7, text)
                else:
                    self.refuses_line(7, text, 5)

    def test_back_goes_ahead_of_a_word_that_lacks(self):
        self.refuses_line(7, "kind pen 1 1 1 2 cup", 5)
        self.refuses_line(7, "kind pen 1 1 1", 5)
        self.refuses_line(7, "kind pen 1 1 1 1 cup", 7)
        self.refuses_line(7, "kind pen 1 0 1", 3)

    def test_names(self):
        for name in ("", "Pen", "pen1", "1", "p-n", "penpenpen", "abcdefghi"):
            self.refuses_line(7, self.words_changed(7, 1, name), 1)
        for name in ("d", "cupa", "penpenpe", "z"):
            self.reads_line(7, self.words_changed(7, 1, name))

    def test_names_rise(self):
        for name in ("cup", "cu", "a", "cuo"):
            self.refuses_line(7, self.words_changed(7, 1, name), 1)
        self.refuses_line(6, self.words_changed(6, 1, "zoo") + " a", 7)
        rows = LINES[:6] + ["kind b 1 1 1 0", "kind d 1 1 1 0", "kind c 1 1 1 0", "kind x"]
        self.refuses("\n".join(rows), 8, 1)

    def test_asks_rise(self):
        for line, ahead in ((5, "copying 1 2"), (7, "kind pen 3 1 2 0")):
            many = len(ahead.split(" "))
            for word in ("a", "b", "az"):
                self.refuses_line(line, ahead + f" b 1 {word} 1", many + 2)
            self.refuses_line(line, ahead + " a 1 c 1 b 1", many + 4)
            self.reads_line(line, ahead + " a 1 c 1 d 1 zz 7")
            self.reads_line(line, ahead + " b 1 ba 1")

    def refused_asks(self, line, ahead):
        many = len(ahead.split(" "))
        for word in ("A", "1", "", "abcdefghi", "a1", "-"):
            self.refuses_line(line, ahead + " " + word, many)
            self.refuses_line(line, ahead + f" {word} 1", many)
        for number in ("0", "", "01", "b", "-1", "1" * 61):
            self.refuses_line(line, ahead + " a " + number, many + 1)
            self.refuses_line(line, ahead + f" a {number} b 1", many + 1)
        self.refuses_line(line, ahead + " a", many + 1)
        self.refuses_line(line, ahead + " a 1 b", many + 3)
        self.refuses_line(line, ahead + " a 1 b 1 c", many + 5)

    def test_asks(self):
        self.refused_asks(5, "copying 1 2")
        self.refused_asks(6, "kind cup 2 1 1 1")
        self.refused_asks(7, "kind pen 3 1 2 0")

    def test_the_first_line_goes(self):
        rows = list(LINES)
        rows[3] = "spring 1 0"
        rows[5] = "copying"
        self.refuses("\n".join(rows), 3, 2)
        self.refuses("\n".join(rows[:3] + ["spring"] + rows[4:]), 3, 1)
        self.refuses("\n".join(["benches 1 1"] + rows[1:]), 0, 2)

    def test_the_first_word_goes(self):
        self.refuses_line(2, "bounds 0 1 0", 1)
        self.refuses_line(2, "bounds 1 1 0", 2)
        self.refuses_line(2, "bounds 1 2 0", 3)
        self.refuses_line(2, "bounds 1 2 1", 4)
        self.refuses_line(2, "bounds 1 2 1 0 0", 5)

    def test_what_is_read_is_written_as_the_same(self):
        for line in range(6):
            for at in range(1, len(LEASTS[line]) + 1):
                # More of AGREEING's many would ask for more sheets, too.
                numbers = (2,) if (line, at) == (1, 1) else (2, 3, 10, 123456789)
                for number in numbers:
                    self.reads_line(line, self.words_changed(line, at, str(number)))

    def test_other_texts(self):
        for text in ("kind", "a b c", "benches", "benches two", "BENCHES 2", "benches\t2", "benches 2 \n", "~"):
            with self.assertRaises(NoText):
                works_read(text)
        self.refuses("benches\t2", 0, 0)
        self.refuses("benches 2 \nagreeing", 0, 2)


if __name__ == "__main__":
    unittest.main()
