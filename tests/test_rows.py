"""Points [80] and [81]: the words of a row, and its deed."""

import unittest

from ferry.deeds import is_deed
from ferry.rows import deed_of, words_of

# One row of each of the eleven deeds.
ROWS = {
    "open 1": ("open", 1),
    "write 0 3: a b": ("write", 0, 3, "a b"),
    "finish 1 3": ("finish", 1, 3),
    "take 0 3 200": ("take", 0, 3, 200),
    "fall 0": ("fall", 0),
    "tick 1": ("tick", 1),
    "carry 5": ("carry", 5),
    "lose 5": ("lose", 5),
    "double 5": ("double", 5),
    "turn 5 6": ("turn", 5, 6),
    "spoil 5 6 x": ("spoil", 5, 6, "x"),
}
HOST_KINDS = ("open", "write", "finish", "take", "fall", "tick")
NO_NUMBERS = ("-1", "+1", "1.0", "1,", "a", "x1", "1x", "0x1", "1_0", "\t", "1\t", "\t1", "-", "''", "None", "True",
              "00", "01", "007", "0000000000", "1234567890", "1000000000", "9999999999", "0000000001", "1" * 40)
GOOD_NUMBERS = (0, 1, 7, 10, 99, 200, 12345678, 99999999, 100000000, 123456789, 999999999)


class RowCase(unittest.TestCase):
    def assert_deed(self, row, deed):
        with self.subTest(row=row):
            told = deed_of(row)
            self.assertIs(type(told), tuple)
            self.assertEqual(told, deed)
            self.assertIs(is_deed(told), True)

    def assert_none(self, row):
        with self.subTest(row=row):
            self.assertIs(deed_of(row), None)


class Words(unittest.TestCase):
    def assert_words(self, row, *words):
        told = words_of(row)
        self.assertIsInstance(told, list)
        self.assertEqual(told, list(words))

    def test_none(self):
        for row in ("", " ", "     "):
            self.assert_words(row)

    def test_one_and_several_blanks(self):
        self.assert_words("open", "open")
        self.assert_words("open 0", "open", "0")
        self.assert_words("take  0   1    9", "take", "0", "1", "9")
        self.assert_words("  take 0 1 9", "take", "0", "1", "9")
        self.assert_words("take 0 1 9   ", "take", "0", "1", "9")
        self.assert_words("  a  ", "a")

    def test_a_tab_is_a_sign_of_a_word(self):
        self.assert_words("\t", "\t")
        self.assert_words("open\t0", "open\t0")
        self.assert_words(" open\t 0 \t", "open\t", "0", "\t")

    def test_behind_a_colon_too(self):
        self.assert_words("write 0 1: a  b:c ", "write", "0", "1:", "a", "b:c")
        self.assert_words("write 0 1 : a", "write", "0", "1", ":", "a")
        self.assert_words(": :", ":", ":")

    def test_the_list_is_the_askers_own(self):
        told = words_of("open 0")
        told.clear()
        self.assert_words("open 0", "open", "0")


class Deeds(RowCase):
    def test_each_row(self):
        self.assertEqual(len(ROWS), 11)
        for row in ROWS:
            self.assert_deed(row, ROWS[row])

    def test_blanks(self):
        for row in ROWS:
            if not row.startswith("write"):
                self.assert_deed("  " + row, ROWS[row])
                self.assert_deed(row + "   ", ROWS[row])
                self.assert_deed(row.replace(" ", "   "), ROWS[row])
                self.assert_none(row.replace(" ", ""))
                self.assert_none(row.replace(" ", "\t"))
                self.assert_none("\t" + row)
                self.assert_none(row + "\t")
                self.assert_none(row + "\n")

    def test_one_word_more_or_less(self):
        for row in ROWS:
            words = row.split(" ")
            if words[0] != "write":
                self.assert_none(" ".join(words[:-1]))
                self.assert_none(" ".join(words[1:]))
                self.assert_none(" ".join(words[:1] + words[2:]))
                for word in ("0", "x", ":", "\t"):
                    self.assert_none(row + " " + word)

    def test_hosts(self):
        for row in ROWS:
            words = row.split(" ")
            if words[0] in HOST_KINDS:
                for host in (0, 1):
                    self.assert_deed(" ".join([words[0], str(host)] + words[2:]), (words[0], host) + ROWS[row][2:])
                for host in ("2", "3", "10", "999999999") + NO_NUMBERS:
                    self.assert_none(" ".join([words[0], host] + words[2:]))

    def test_numbers(self):
        for row in ROWS:
            words = row.split(" ")
            for place in range(1, len(words)):
                if words[0] == "write" or words[0] in HOST_KINDS and place == 1 or words[place] == "x":
                    continue
                for number in GOOD_NUMBERS:
                    deed = ROWS[row][:place] + (number,) + ROWS[row][place + 1:]
                    self.assert_deed(" ".join(words[:place] + [str(number)] + words[place + 1:]), deed)
                for word in NO_NUMBERS:
                    self.assert_none(" ".join(words[:place] + [word] + words[place + 1:]))

    def test_other_rows(self):
        for row in ("", " ", "   ", "\t", ":", "x", "Open 0", "OPEN 0", "opened 0", "ope 0", "start 0", "0 open", "#",
                    "0", "1 2 3", "open: 0", ": open 0", "open 0: ", "tick 0:", "do tick 0"):
            self.assert_none(row)

    def test_rows_that_are_no_deeds(self):
        for row in ("world 10 5 3", "world 1 1 1", "world 0 0 0", "world", "settle 3", "settle", "flying", "streams 0",
                    "streams 1", "others 0", "broken 1", "flying 0", "streams", "others", "broken"):
            self.assert_none(row)


class Write(RowCase):
    def test_all_behind_the_first_colon_and_one_blank(self):
        for signs in ("a", "abc", "", " ", "   ", " a", "a ", "  a  b  ", ":", ": ", "a: b", "a:b", " : : ", "write 0 1: x",
                      "~!@#$^&*()", "x" * 5000, "-", "0", "\"", "'", "\\"):
            self.assert_deed("write 0 3: " + signs, ("write", 0, 3, signs))

    def test_the_words_stand_ahead_of_the_first_colon(self):
        for ahead in ("write 1 30", "  write 1 30", "write   1  30", "write 1 30 ", "   write   1   30   "):
            self.assert_deed(ahead + ": a b", ("write", 1, 30, "a b"))
        for ahead in ("write", "write 1", "write 1 3 0", "write 1 3 0 0", "write 1 x", "write x 3", "write 2 3", "1 3", "",
                      "write: 1 3", "write 1: 3", "writ 1 3", "write\t1 3", "write 1\t3", "write 1 3\t", "\twrite 1 3",
                      "write 1 03", "write 01 3", "write 1 1234567890", "write 1 -3", "a write 1 3", "write write 1 3"):
            self.assert_none(ahead + ": a b")

    def test_numbers(self):
        for number in GOOD_NUMBERS:
            self.assert_deed(f"write 0 {number}: a", ("write", 0, number, "a"))
        for word in NO_NUMBERS:
            self.assert_none(f"write 0 {word}: a")

    def test_without_a_colon_or_a_blank(self):
        for row in ("write 0 3", "write 0 3 ", "write 0 3 abc", "write 0 3:", "write 0 3:a", "write 0 3:abc", "write 0 3:: a",
                    "write 0 3:a: b", "write 0 3:\ta", "write", "write ", "write:", "write: "):
            self.assert_none(row)

    def test_a_sign_that_is_none(self):
        for signs in ("%", "a%", "%a", "\t", "a\tb", "\n", "a\nb", "a\n"):
            self.assert_none("write 0 3: " + signs)


class Spoil(RowCase):
    def test_any_one_sign_but_a_blank(self):
        for code in range(33, 127):
            self.assert_deed("spoil 1 2 " + chr(code), ("spoil", 1, 2, chr(code)))
        self.assert_deed("spoil 1 2 \t", ("spoil", 1, 2, "\t"))
        self.assert_deed("spoil 1 2    x ", ("spoil", 1, 2, "x"))
        self.assert_deed("spoil 1 2 0", ("spoil", 1, 2, "0"))

    def test_more_or_less_than_one(self):
        for row in ("spoil 1 2", "spoil 1 2 ", "spoil 1 2  ", "spoil 1 2 xy", "spoil 1 2 x y", "spoil 1 2 x x", "spoil 1 2 10",
                    "spoil 1 2 \t\t", "spoil 1 x", "spoil", "spoil x", "spoil 1", "spoil 1 2 3 x", "spoil 1 2 3 4"):
            self.assert_none(row)


if __name__ == "__main__":
    unittest.main()
