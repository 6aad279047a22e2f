"""Points [2], [12] and [13]: signs, the check, figures and numbers."""

import unittest

from ferry.marks import check_of, figures, is_signs, number_of

SIGNS = "".join([chr(code) for code in range(32, 127) if code != 37])
MILLION_MILLION = 10 ** 12


class Strange:
    """A thing that can't be compared, measured or walked."""

    def __eq__(self, other):
        raise RuntimeError("compared")

    def __len__(self):
        raise RuntimeError("measured")

    def __iter__(self):
        raise RuntimeError("walked")


class IsSigns(unittest.TestCase):
    def test_the_empty_text_is_one(self):
        self.assertIs(is_signs(""), True)

    def test_each_sign_by_itself_and_all_together(self):
        for sign in SIGNS:
            with self.subTest(sign):
                self.assertIs(is_signs(sign), True)
        self.assertIs(is_signs(SIGNS), True)
        self.assertIs(is_signs(SIGNS * 50), True)

    def test_the_blank_and_the_last_sign(self):
        self.assertIs(is_signs(" "), True)
        self.assertIs(is_signs("   "), True)
        self.assertIs(is_signs("~"), True)
        self.assertIs(is_signs(" ~ a"), True)

    def test_a_tab_or_a_line_end_at_any_place(self):
        for wrong in ("\t", "\n"):
            self.assertIs(is_signs(wrong), False)
            for place in range(6):
                with self.subTest(wrong=wrong, place=place):
                    self.assertIs(is_signs("a b~c"[:place] + wrong + "a b~c"[place:]), False)

    def test_what_is_no_text(self):
        things = [0, 1, 7, 1.5, None, True, False, [], ["a"], (), ("a", "b"), {}, {"a": 1}, {"a"}, b"", b"abc",
                  object(), str, Strange(), iter("abc"), range(3)]
        for place, thing in enumerate(things):
            with self.subTest(place=place):
                self.assertIs(is_signs(thing), False)

    def test_what_is_handed_in_is_the_same_behind_it(self):
        row = ["a", "b"]
        is_signs(row)
        self.assertEqual(row, ["a", "b"])
        self.assertEqual([is_signs("ab"), is_signs("a\tb")], [is_signs("ab"), is_signs("a\tb")])


class CheckOf(unittest.TestCase):
    def test_reckoned_by_hand(self):
        self.assertEqual(check_of(""), 7)
        self.assertEqual(check_of(" "), 7 * 31)
        self.assertEqual(check_of("!"), 7 * 31 + 1)
        self.assertEqual(check_of("~"), 7 * 31 + 94)
        self.assertEqual(check_of("a"), 282)
        self.assertEqual(check_of("ab"), 282 * 31 + 66)
        # 8808 * 31 + 67 is 273115, which is 27 * 9973 and 3844.
        self.assertEqual(check_of("abc"), 3844)

    def test_by_the_sum_of_powers(self):
        for text in (SIGNS, SIGNS[::-1], "hello 3 0", " " * 40, "~" * 400, "data 1 2 4 17 5:a b c"):
            with self.subTest(text):
                size = len(text)
                expected = 7 * 31 ** size + sum((ord(sign) - 32) * 31 ** (size - 1 - place)
                                                for place, sign in enumerate(text))
                self.assertEqual(check_of(text), expected % 9973)

    def test_its_bounds(self):
        checks = [check_of(one + other + "x") for one in SIGNS for other in SIGNS]
        self.assertGreaterEqual(min(checks), 0)
        self.assertLess(max(checks), 9973)
        self.assertGreater(max(checks), 9900)

    def test_one_sign_another_is_another_number(self):
        text = "data 1 2 4 17 5:a b c"
        check = check_of(text)
        for place in range(len(text)):
            for sign in SIGNS:
                if sign != text[place]:
                    self.assertNotEqual(check_of(text[:place] + sign + text[place + 1:]), check, (place, sign))

    def test_one_of_two_signs_that_lie_far_apart(self):
        self.assertNotEqual(check_of(" " * 400), check_of("~" + " " * 399))

    def test_asked_again_it_tells_the_same(self):
        self.assertEqual(check_of("ferry"), check_of("ferry"))


class Figures(unittest.TestCase):
    def test_ordinary_numbers(self):
        for number, text in ((0, "0"), (1, "1"), (9, "9"), (10, "10"), (105, "105"), (9973, "9973"), (60, "60")):
            with self.subTest(number):
                self.assertEqual(figures(number), text)

    def test_the_greatest(self):
        self.assertEqual(figures(MILLION_MILLION), "1000000000000")
        self.assertEqual(figures(MILLION_MILLION - 1), "999999999999")
        self.assertEqual(figures(MILLION_MILLION + 1), "1000000000001")


class NumberOf(unittest.TestCase):
    def assert_number(self, text, number):
        told = number_of(text)
        self.assertEqual(told, number)
        self.assertIs(type(told), int)

    def test_ordinary_numbers(self):
        for text, number in (("0", 0), ("1", 1), ("9", 9), ("10", 10), ("105", 105), ("1000000", 10 ** 6)):
            with self.subTest(text):
                self.assert_number(text, number)

    def test_the_greatest_and_beyond(self):
        self.assert_number("999999999999", MILLION_MILLION - 1)
        self.assert_number("1000000000000", MILLION_MILLION)
        self.assertIsNone(number_of("1000000000001"))
        self.assertIsNone(number_of("9999999999999"))
        self.assertIsNone(number_of("10000000000000"))

    def test_noughts_ahead(self):
        for text in ("00", "01", "000", "007", "0105", "00000000000001", "0999999999999", "01000000000000"):
            with self.subTest(text):
                self.assertIsNone(number_of(text))

    def test_the_empty_text(self):
        self.assertIsNone(number_of(""))

    def test_another_sign_at_any_place(self):
        others = [sign for sign in SIGNS if sign not in "0123456789"] + ["\t", "\n"]
        for sign in others:
            self.assertIsNone(number_of(sign), sign)
            for place in range(4):
                self.assertIsNone(number_of("123"[:place] + sign + "123"[place:]), (sign, place))
            for place in range(3):
                self.assertIsNone(number_of("123"[:place] + sign + "123"[place + 1:]), (sign, place))

    def test_what_python_itself_would_take(self):
        for text in ("+1", "-1", "-0", " 1", "1 ", "1_0", "1\n", "0x1", "1.0", "1e3"):
            with self.subTest(text):
                self.assertIsNone(number_of(text))

    def test_very_many_figures(self):
        for text in ("1" * 14, "1" * 4300, "1" * 4301, "9" * 100000, "0" * 100000):
            with self.subTest(size=len(text)):
                self.assertIsNone(number_of(text))

    def test_it_leads_back_from_figures(self):
        numbers = list(range(1200)) + [10 ** power + step for power in range(3, 13) for step in (-1, 0, 1)]
        for number in numbers:
            if number <= MILLION_MILLION:
                self.assert_number(figures(number), number)
            else:
                self.assertIsNone(number_of(figures(number)))

    def test_asked_again_it_tells_the_same(self):
        self.assertEqual([number_of("12"), number_of("x")], [number_of("12"), number_of("x")])


if __name__ == "__main__":
    unittest.main()
