"""Point [3]: how the refusals stand to one another."""

import unittest

from ferry import errors

NAMES = ("Spoilt", "NoPiece", "NoSpan", "NoStream", "NotMet", "Broken", "Ended", "TooMuch", "NoDeed")


class Refusals(unittest.TestCase):
    def test_ferry_error_stands_straight_under_value_error(self):
        self.assertEqual(errors.FerryError.__bases__, (ValueError,))

    def test_each_stands_straight_below_ferry_error(self):
        for name in NAMES:
            with self.subTest(name):
                self.assertEqual(getattr(errors, name).__bases__, (errors.FerryError,))
                self.assertEqual(getattr(errors, name).__name__, name)

    def test_each_is_taken_as_ferry_error_and_as_value_error(self):
        for name in NAMES:
            for taken_as in (errors.FerryError, ValueError, getattr(errors, name)):
                with self.subTest(name, taken_as=taken_as):
                    with self.assertRaises(taken_as):
                        raise getattr(errors, name)("told")

    def test_none_is_taken_as_another(self):
        for name in NAMES:
            for other in NAMES:
                if name != other:
                    with self.subTest(name, other=other):
                        made = getattr(errors, name)("told")
                        self.assertNotIsInstance(made, getattr(errors, other))

    def test_ferry_error_is_none_of_the_nine(self):
        for name in NAMES:
            with self.subTest(name):
                self.assertNotIsInstance(errors.FerryError("told"), getattr(errors, name))

    def test_each_can_be_made_of_a_text_and_keeps_it(self):
        for name in NAMES + ("FerryError",):
            with self.subTest(name):
                self.assertEqual(str(getattr(errors, name)("some words")), "some words")


if __name__ == "__main__":
    unittest.main()
