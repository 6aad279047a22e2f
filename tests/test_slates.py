"""Points [22] and [23]: texts with holes."""

import random
import unittest

from ferry.errors import NoSpan
from ferry.slates import Slate

FAR = 10 ** 12


class SlateCase(unittest.TestCase):
    def assert_slate(self, slate, text, spans):
        self.assertEqual(slate.text, text)
        self.assertEqual(slate.spans, spans)
        self.assertEqual(repr(slate.spans), repr(spans))


class Put(SlateCase):
    def test_a_new_one(self):
        slate = Slate()
        self.assert_slate(slate, "", ())
        for place in (-1, 0, 1, FAR):
            self.assertIsNone(slate.sign(place))

    def test_in_order(self):
        slate = Slate()
        self.assertIsNone(slate.put(0, "ab"))
        self.assert_slate(slate, "ab", ())
        self.assertIsNone(slate.put(2, "c"))
        self.assert_slate(slate, "abc", ())

    def test_behind_a_hole_and_then_the_hole(self):
        slate = Slate()
        slate.put(3, "def")
        self.assert_slate(slate, "", ((3, 6),))
        slate.put(0, "ab")
        self.assert_slate(slate, "ab", ((3, 6),))
        slate.put(2, "c")
        self.assert_slate(slate, "abcdef", ())
        slate.put(6, "g")
        self.assert_slate(slate, "abcdefg", ())

    def test_only_up_to_the_next_hole(self):
        slate = Slate()
        slate.put(2, "c")
        slate.put(4, "e")
        slate.put(6, "gh")
        self.assert_slate(slate, "", ((2, 3), (4, 5), (6, 8)))
        slate.put(0, "ab")
        self.assert_slate(slate, "abc", ((4, 5), (6, 8)))
        slate.put(3, "d")
        self.assert_slate(slate, "abcde", ((6, 8),))
        slate.put(5, "f")
        self.assert_slate(slate, "abcdefgh", ())

    def test_spans_that_touch_are_one(self):
        slate = Slate()
        slate.put(5, "f")
        slate.put(7, "h")
        slate.put(6, "g")
        self.assert_slate(slate, "", ((5, 8),))

    def test_over_what_has_come_it_stays(self):
        slate = Slate()
        slate.put(0, "abcd")
        slate.put(0, "WXYZ")
        self.assert_slate(slate, "abcd", ())
        slate.put(1, "XY")
        self.assert_slate(slate, "abcd", ())
        slate.put(2, "YZef")
        self.assert_slate(slate, "abcdef", ())

    def test_over_what_stands_behind_a_hole_it_stays(self):
        slate = Slate()
        slate.put(2, "cd")
        slate.put(2, "CD")
        slate.put(1, "bCDe")
        self.assert_slate(slate, "", ((1, 5),))
        self.assertEqual([slate.sign(place) for place in range(6)], [None, "b", "c", "d", "e", None])
        slate.put(0, "aBCDEF")
        self.assert_slate(slate, "abcdeF", ())

    def test_over_all_at_once(self):
        slate = Slate()
        slate.put(0, "a")
        slate.put(2, "c")
        slate.put(4, "e")
        slate.put(0, "ABCDEFG")
        self.assert_slate(slate, "aBcDeFG", ())

    def test_twice(self):
        slate = Slate()
        for turn in range(2):
            slate.put(0, "ab")
            slate.put(4, "ef")
            self.assert_slate(slate, "ab", ((4, 6),))

    def test_no_signs_at_all(self):
        slate = Slate()
        for at in (0, 1, FAR):
            self.assertIsNone(slate.put(at, ""))
            self.assert_slate(slate, "", ())
        slate.put(0, "ab")
        slate.put(4, "e")
        for at in (0, 1, 2, 3, 4, 5, 6, FAR):
            slate.put(at, "")
            self.assert_slate(slate, "ab", ((4, 5),))

    def test_very_distant_places(self):
        slate = Slate()
        slate.put(FAR, "xy")
        slate.put(FAR - 5, "st")
        slate.put(0, "a")
        self.assert_slate(slate, "a", ((FAR - 5, FAR - 3), (FAR, FAR + 2)))
        self.assertEqual(slate.sign(FAR - 5), "s")
        self.assertEqual(slate.sign(FAR), "x")
        self.assertEqual(slate.sign(FAR + 1), "y")
        self.assertIsNone(slate.sign(FAR - 1))
        self.assertIsNone(slate.sign(FAR + 2))
        slate.put(FAR - 3, "uvw")
        self.assert_slate(slate, "a", ((FAR - 5, FAR + 2),))

    def test_below_nought_is_refused_and_nothing_has_changed(self):
        for begun in (False, True):
            slate = Slate()
            if begun:
                slate.put(1, "b")
            kept = (slate.text, slate.spans, slate.sign(0), slate.sign(1))
            for at, signs in ((-1, "ab"), (-1, ""), (-5, "abcdefgh"), (-FAR, "a"), (-2, "ab")):
                with self.assertRaises(NoSpan):
                    slate.put(at, signs)
                self.assertEqual((slate.text, slate.spans, slate.sign(0), slate.sign(1)), kept)

    def test_all_signs_come_as_they_are(self):
        signs = "".join([chr(code) for code in range(32, 127) if code != 37])
        slate = Slate()
        slate.put(40, signs[40:])
        slate.put(0, signs[:40])
        self.assert_slate(slate, signs, ())


class Sign(SlateCase):
    def test_each_kind_of_place(self):
        slate = Slate()
        slate.put(0, "ab")
        slate.put(3, "d")
        self.assertEqual([slate.sign(place) for place in range(6)], ["a", "b", None, "d", None, None])
        for place in (-1, -2, -3, -4, -FAR, FAR):
            self.assertIsNone(slate.sign(place))
        self.assert_slate(slate, "ab", ((3, 4),))


class Apart(SlateCase):
    def test_two_slates_have_nothing_to_do_with_one_another(self):
        one = Slate()
        other = Slate()
        one.put(0, "ab")
        one.put(4, "e")
        self.assert_slate(other, "", ())
        self.assertIsNone(other.sign(4))
        other.put(0, "XYZ")
        self.assert_slate(one, "ab", ((4, 5),))
        self.assert_slate(other, "XYZ", ())

    def test_what_was_told_earlier_stays(self):
        slate = Slate()
        slate.put(0, "a")
        slate.put(2, "c")
        text = slate.text
        spans = slate.spans
        slate.put(4, "e")
        slate.put(1, "b")
        self.assertEqual(text, "a")
        self.assertEqual(spans, ((2, 3),))


class OneText(SlateCase):
    """[23]: parts of one text, in whatever order, cut in whatever way, doubled."""

    def parts_of(self, chance, text):
        parts = []
        at = 0
        while at < len(text):
            size = chance.randint(1, 9)
            parts.append((at, text[at:at + size]))
            at += size
        for turn in range(chance.randint(0, 30)):
            begin = chance.randint(0, len(text))
            end = chance.randint(begin, len(text))
            parts.append((begin, text[begin:end]))
        doubled = [chance.choice(parts) for turn in range(len(parts) // 3)]
        parts.extend(doubled)
        chance.shuffle(parts)
        return parts

    def test_a_beginning_at_each_moment_and_whole_in_the_end(self):
        chance = random.Random(23)
        for turn in range(150):
            text = "".join([chance.choice("ab c~!:9") for place in range(chance.randint(1, 120))])
            slate = Slate()
            come = set()
            for at, signs in self.parts_of(chance, text):
                slate.put(at, signs)
                come |= set(range(at, at + len(signs)))
                self.assertTrue(text.startswith(slate.text))
                self.assertEqual(len(slate.text), min(set(range(len(text) + 1)) - come))
                standing = {place for begin, end in slate.spans for place in range(begin, end)}
                self.assertEqual(standing, {place for place in come if place >= len(slate.text)})
                for place in range(-1, len(text) + 2):
                    self.assertEqual(slate.sign(place), text[place] if place in come else None)
            self.assert_slate(slate, text, ())

    def test_sign_by_sign_backwards(self):
        text = "".join([chr(33 + place * 7 % 4) for place in range(2000)])
        slate = Slate()
        for place in reversed(range(1, len(text))):
            slate.put(place, text[place])
            self.assertEqual(slate.text, "")
        self.assert_slate(slate, "", ((1, 2000),))
        slate.put(0, text[0])
        self.assert_slate(slate, text, ())


if __name__ == "__main__":
    unittest.main()
