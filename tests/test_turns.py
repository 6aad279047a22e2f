"""Whose turn it is: in_turn of the interface of stage 5."""

import unittest

from ferry.turns import in_turn

NUMBERS = [2, 5, 6, 9]


class InTurn(unittest.TestCase):
    def assert_turn(self, numbers, last, expected):
        kept = list(numbers)
        told = in_turn(numbers, last)
        self.assertEqual(told, expected)
        self.assertIsInstance(told, list)
        self.assertIsNot(told, numbers)
        told.append(99)
        self.assertEqual(numbers, kept)

    def test_no_numbers(self):
        for last in (None, 0, 3, 10 ** 12):
            self.assert_turn([], last, [])

    def test_none_was_last(self):
        self.assert_turn(NUMBERS, None, [2, 5, 6, 9])

    def test_below_all(self):
        for last in (0, 1):
            self.assert_turn(NUMBERS, last, [2, 5, 6, 9])

    def test_among_them(self):
        self.assert_turn(NUMBERS, 2, [5, 6, 9, 2])
        self.assert_turn(NUMBERS, 5, [6, 9, 2, 5])
        self.assert_turn(NUMBERS, 6, [9, 2, 5, 6])

    def test_between_them(self):
        self.assert_turn(NUMBERS, 3, [5, 6, 9, 2])
        self.assert_turn(NUMBERS, 7, [9, 2, 5, 6])
        self.assert_turn(NUMBERS, 8, [9, 2, 5, 6])

    def test_the_greatest_and_above_all(self):
        for last in (9, 10, 10 ** 12):
            self.assert_turn(NUMBERS, last, [2, 5, 6, 9])

    def test_one_number(self):
        for last in (None, 0, 4, 9):
            self.assert_turn([4], last, [4])

    def test_nought_is_a_number(self):
        self.assert_turn([0, 1, 2], 0, [1, 2, 0])
        self.assert_turn([0, 1, 2], 2, [0, 1, 2])


if __name__ == "__main__":
    unittest.main()
