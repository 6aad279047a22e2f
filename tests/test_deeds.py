"""Point [70]: what a deed is."""

import unittest

from ferry.deeds import is_deed

FAR = 10 ** 12

# One of each of the eleven kinds.
DEEDS = (
    ("open", 0),
    ("write", 1, 3, "a b"),
    ("finish", 0, 3),
    ("take", 1, 3, 200),
    ("fall", 1),
    ("tick", 0),
    ("carry", 5),
    ("lose", 5),
    ("double", 5),
    ("turn", 5, 6),
    ("spoil", 5, 6, "x"),
)

HOST_KINDS = ("open", "write", "finish", "take", "fall", "tick")
# What is no number, nor a text.
OTHER_THINGS = (True, False, None, 0.0, 1.0, (), (0,), [], [0], {}, b"x", object())


class Awkward:
    """A thing that can't be compared."""

    def __eq__(self, other):
        raise RuntimeError("not to be compared")

    __hash__ = None


def with_part(deed, place, part):
    return deed[:place] + (part,) + deed[place + 1:]


def is_host_place(deed, place):
    return place == 1 and deed[0] in HOST_KINDS


def number_places():
    """The deeds and their places of numbers that are no hosts."""
    found = []
    for deed in DEEDS:
        for place in range(1, len(deed)):
            if not is_host_place(deed, place) and type(deed[place]) is int:
                found.append((deed, place))
    return found


class DeedCase(unittest.TestCase):
    def assert_deed(self, thing, expected):
        with self.subTest(thing=repr(thing)):
            self.assertIs(is_deed(thing), expected)


class Kinds(DeedCase):
    def test_each_kind(self):
        self.assertEqual(len(DEEDS), 11)
        for deed in DEEDS:
            self.assert_deed(deed, True)

    def test_one_part_more_or_less(self):
        for deed in DEEDS:
            self.assert_deed(deed[:-1], False)
            self.assert_deed(deed[:1] + deed[2:], False)
            self.assert_deed(deed[1:], False)
            for part in (0, 1, "x", None, ()):
                self.assert_deed(deed + (part,), False)

    def test_a_list_in_its_stead(self):
        for deed in DEEDS:
            self.assert_deed(list(deed), False)
            self.assert_deed((list(deed),), False)
            self.assert_deed((deed,), False)

    def test_other_kinds(self):
        for kind in ("", "Open", "OPEN", "open ", " open", "start", "close", "settle", "world", "flying", "streams",
                     "hello", "data", "send", "full"):
            for deed in DEEDS:
                self.assert_deed((kind,) + deed[1:], False)

    def test_kinds_that_are_no_texts(self):
        for kind in OTHER_THINGS + (0, 1, ("open",), ["open"], Awkward()):
            for deed in DEEDS:
                self.assert_deed((kind,) + deed[1:], False)

    def test_one_kind_with_the_parts_of_another(self):
        shapes = {deed[0]: tuple([type(part) for part in deed[1:]]) for deed in DEEDS}
        for deed in DEEDS:
            for other in DEEDS:
                if shapes[deed[0]] != shapes[other[0]]:
                    self.assert_deed((deed[0],) + other[1:], False)

    def test_what_is_no_tuple(self):
        for thing in OTHER_THINGS + (0, 1, -1, FAR, "", "open", "open 0", "tick 0", {"open": 0}, Awkward()):
            if type(thing) is not tuple:
                self.assert_deed(thing, False)

    def test_tuples_of_none_and_of_a_kind_alone(self):
        self.assert_deed((), False)
        for deed in DEEDS:
            self.assert_deed(deed[:1], False)


class Hosts(DeedCase):
    def test_hosts(self):
        for deed in DEEDS:
            if deed[0] in HOST_KINDS:
                for host in (0, 1):
                    self.assert_deed(with_part(deed, 1, host), True)
                for host in (2, 3, -1, FAR, "", "0", "1", Awkward()) + OTHER_THINGS:
                    self.assert_deed(with_part(deed, 1, host), False)


class Numbers(DeedCase):
    def test_all_places_of_numbers_are_looked_at(self):
        self.assertEqual(len(number_places()), 11)

    def test_bounds(self):
        for deed, place in number_places():
            for number in (0, 1, 2, 49, 50, 200, 201, 999, 1000, FAR - 1, FAR):
                self.assert_deed(with_part(deed, place, number), True)
            for number in (FAR + 1, -1, -2, -FAR, 10 ** 30):
                self.assert_deed(with_part(deed, place, number), False)

    def test_what_is_no_number(self):
        for deed, place in number_places():
            for thing in OTHER_THINGS + ("", "0", "5", Awkward()):
                self.assert_deed(with_part(deed, place, thing), False)


class Signs(DeedCase):
    def test_signs(self):
        for signs in ("", " ", "a", "~", "a b: c", "#$&'", "a" * 201, "a" * 5000):
            self.assert_deed(("write", 0, 0, signs), True)

    def test_no_signs(self):
        for signs in ("%", "a%", "%a", "a%b", "\t", "a\tb", "\n", "a\n") + OTHER_THINGS + (0, 1, ("a",), ["a"]):
            self.assert_deed(("write", 0, 0, signs), False)

    def test_a_sign(self):
        # Whichever: also one that no text of signs has.
        for sign in ("a", "0", "~", " ", "\t", "%", "\n", ":"):
            self.assert_deed(("spoil", 0, 0, sign), True)

    def test_no_sign(self):
        for sign in ("", "ab", "  ", "abc", "\t\t") + OTHER_THINGS + (0, 1, ("a",), ["a"], Awkward()):
            self.assert_deed(("spoil", 0, 0, sign), False)


if __name__ == "__main__":
    unittest.main()
