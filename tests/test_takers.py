"""Point [34]: the reading side of a stream."""

import random
import unittest

from ferry.errors import NoSpan, TooMuch
from ferry.takers import Taker

FAR = 10 ** 12
ALPHABET = "abcdefghijklmnopqrstuvwxyz"


def state(taker):
    return (taker.text, taker.read, taker.limit, taker.is_done, taker.answer())


class TakerCase(unittest.TestCase):
    def assert_taker(self, taker, text, read, limit, is_done):
        self.assertEqual((taker.text, taker.read, taker.limit), (text, read, limit))
        self.assertIs(taker.is_done, is_done)

    def assert_answer(self, taker, come, limit, spans):
        self.assertEqual(taker.answer(), (come, limit, spans))
        self.assertEqual(repr(taker.answer()), repr((come, limit, spans)))


class Making(TakerCase):
    def test_all_values_are_there(self):
        for room in (1, 10, 200):
            taker = Taker(room)
            self.assert_taker(taker, "", 0, room, False)
            self.assert_answer(taker, 0, room, ())

    def test_two_have_nothing_to_do_with_one_another(self):
        one = Taker(10)
        other = Taker(10)
        one.put(0, "ab")
        one.put(4, "e")
        one.take(1)
        one.ends(5)
        self.assert_taker(other, "", 0, 10, False)
        self.assert_answer(other, 0, 10, ())


class Put(TakerCase):
    def test_in_order(self):
        taker = Taker(10)
        self.assertIsNone(taker.put(0, "abc"))
        self.assert_taker(taker, "abc", 0, 10, False)
        self.assertIsNone(taker.put(3, "de"))
        self.assert_taker(taker, "abcde", 0, 10, False)
        self.assert_answer(taker, 5, 10, ())

    def test_behind_a_hole(self):
        taker = Taker(10)
        taker.put(3, "de")
        self.assert_taker(taker, "", 0, 10, False)
        self.assert_answer(taker, 0, 10, ((3, 5),))
        taker.put(0, "abc")
        self.assert_taker(taker, "abcde", 0, 10, False)
        self.assert_answer(taker, 5, 10, ())

    def test_up_to_the_limit(self):
        taker = Taker(5)
        taker.put(0, "abcde")
        self.assert_taker(taker, "abcde", 0, 5, False)

    def test_over_the_limit(self):
        taker = Taker(5)
        taker.put(0, "abcdefgh")
        self.assert_taker(taker, "abcde", 0, 5, False)
        self.assert_answer(taker, 5, 5, ())
        taker = Taker(5)
        taker.put(3, "defgh")
        self.assert_answer(taker, 0, 5, ((3, 5),))

    def test_at_and_beyond_the_limit(self):
        taker = Taker(5)
        for at in (5, 6, 7, 20, FAR):
            taker.put(at, "xyz")
            self.assert_answer(taker, 0, 5, ())
        taker.put(4, "e")
        self.assert_answer(taker, 0, 5, ((4, 5),))

    def test_the_limit_rises_with_what_is_read(self):
        taker = Taker(5)
        taker.put(0, "abcdefgh")
        taker.take(2)
        taker.put(5, "fgh")
        self.assert_taker(taker, "abcdefg", 2, 7, False)
        taker.put(7, "h")
        self.assert_taker(taker, "abcdefg", 2, 7, False)

    def test_no_signs_at_all(self):
        taker = Taker(5)
        for at in (0, 3, 5, FAR):
            self.assertIsNone(taker.put(at, ""))
            self.assert_answer(taker, 0, 5, ())

    def test_what_stands_stays(self):
        taker = Taker(9)
        taker.put(0, "ab")
        taker.put(4, "ef")
        taker.put(0, "UVWXYZ")
        self.assertEqual(taker.text, "abWXef")

    def test_what_was_read_stays_read(self):
        taker = Taker(9)
        taker.put(0, "abcd")
        taker.take(3)
        taker.put(0, "abcd")
        self.assert_taker(taker, "abcd", 3, 12, False)
        self.assertEqual(taker.take(9), "d")

    def test_at_and_behind_a_told_end(self):
        taker = Taker(20)
        taker.ends(4)
        for at in (4, 5, 10, 20, FAR):
            taker.put(at, "xy")
            self.assert_answer(taker, 0, 20, ())
        taker.put(3, "d")
        self.assert_answer(taker, 0, 20, ((3, 4),))

    def test_over_a_told_end(self):
        taker = Taker(20)
        taker.ends(4)
        taker.put(2, "cdef")
        self.assert_answer(taker, 0, 20, ((2, 4),))
        taker.put(0, "abcdef")
        self.assert_taker(taker, "abcd", 0, 20, False)

    def test_over_limit_and_end(self):
        taker = Taker(3)
        taker.ends(4)
        taker.put(0, "abcdef")
        self.assert_taker(taker, "abc", 0, 3, False)
        taker.take(1)
        taker.put(0, "abcdef")
        self.assert_taker(taker, "abcd", 1, 4, False)
        taker.take(1)
        taker.put(0, "abcdef")
        self.assert_taker(taker, "abcd", 2, 5, False)

    def test_below_nought_is_refused_by_its_slate(self):
        taker = Taker(5)
        with self.assertRaises(NoSpan):
            taker.put(-1, "ab")
        self.assert_taker(taker, "", 0, 5, False)

    def test_what_answer_told_stays(self):
        taker = Taker(9)
        taker.put(2, "c")
        told = taker.answer()
        taker.put(0, "ab")
        taker.take(1)
        self.assertEqual(told, (0, 9, ((2, 3),)))


class Ends(TakerCase):
    def test_the_end_is_counted_where_all_up_to_it_has_come(self):
        taker = Taker(9)
        taker.put(0, "ab")
        self.assertIsNone(taker.ends(4))
        self.assert_answer(taker, 2, 9, ())
        taker.put(3, "d")
        self.assert_answer(taker, 2, 9, ((3, 4),))
        taker.put(2, "c")
        self.assert_answer(taker, 5, 9, ())
        self.assert_taker(taker, "abcd", 0, 9, False)

    def test_behind_all_that_has_come(self):
        taker = Taker(9)
        taker.put(0, "ab")
        self.assert_answer(taker, 2, 9, ())
        taker.ends(2)
        self.assert_answer(taker, 3, 9, ())

    def test_told_twice(self):
        taker = Taker(9)
        taker.put(0, "ab")
        taker.ends(2)
        kept = state(taker)
        self.assertIsNone(taker.ends(2))
        self.assertEqual(state(taker), kept)

    def test_told_at_another_place(self):
        for other in (0, 2, 3, 5, 8, FAR):
            taker = Taker(9)
            taker.put(0, "ab")
            taker.ends(4)
            taker.ends(other)
            taker.put(2, "cdefg")
            self.assert_taker(taker, "abcd", 0, 9, False)
            self.assert_answer(taker, 5, 9, ())

    def test_with_signs_in_order_at_or_behind_it(self):
        for at in (0, 1, 2):
            taker = Taker(9)
            taker.put(0, "abc")
            taker.ends(at)
            self.assert_answer(taker, 3, 9, ())
            taker.put(3, "d")
            self.assert_answer(taker, 4, 9, ())
            taker.ends(4)
            self.assert_answer(taker, 5, 9, ())

    def test_with_signs_behind_a_hole_at_or_behind_it(self):
        for at in (0, 1, 2, 3, 4, 5, 6):
            taker = Taker(9)
            taker.put(0, "a")
            taker.put(2, "c")
            taker.put(5, "fg")
            taker.ends(at)
            taker.put(0, "abcdefg")
            self.assert_answer(taker, 7, 9, ())
            taker.put(7, "hi")
            self.assert_answer(taker, 9, 9, ())

    def test_just_behind_the_last_sign_that_stands(self):
        taker = Taker(9)
        taker.put(0, "a")
        taker.put(5, "fg")
        taker.ends(7)
        taker.put(0, "abcdefghi")
        self.assert_taker(taker, "abcdefg", 0, 9, False)
        self.assert_answer(taker, 8, 9, ())

    def test_with_signs_that_were_read(self):
        taker = Taker(9)
        taker.put(0, "abc")
        taker.take(3)
        taker.ends(2)
        self.assert_taker(taker, "abc", 3, 12, False)
        self.assert_answer(taker, 3, 12, ())
        taker.ends(3)
        self.assert_taker(taker, "abc", 3, 12, True)

    def test_beyond_the_limit(self):
        taker = Taker(3)
        taker.ends(5)
        taker.put(0, "abcdefgh")
        self.assert_answer(taker, 3, 3, ())
        self.assertEqual(taker.take(9), "abc")
        taker.put(3, "defgh")
        self.assert_answer(taker, 6, 6, ())
        self.assert_taker(taker, "abcde", 3, 6, False)
        self.assertEqual(taker.take(9), "de")
        self.assert_taker(taker, "abcde", 5, 8, True)
        self.assert_answer(taker, 6, 8, ())

    def test_far_beyond_it(self):
        taker = Taker(3)
        taker.ends(10 ** 6)
        taker.ends(2)
        taker.put(0, "abcd")
        self.assert_answer(taker, 3, 3, ())

    def test_at_nought(self):
        taker = Taker(9)
        taker.ends(0)
        self.assert_taker(taker, "", 0, 9, True)
        self.assert_answer(taker, 1, 9, ())
        taker.put(0, "abc")
        self.assert_taker(taker, "", 0, 9, True)
        self.assertEqual(taker.take(1), "")
        self.assert_taker(taker, "", 0, 9, True)
        taker.ends(3)
        self.assert_answer(taker, 1, 9, ())


class Take(TakerCase):
    def test_in_order_each_once(self):
        taker = Taker(20)
        taker.put(0, "abcdef")
        self.assertEqual(taker.take(1), "a")
        self.assert_taker(taker, "abcdef", 1, 21, False)
        self.assertEqual(taker.take(3), "bcd")
        self.assert_taker(taker, "abcdef", 4, 24, False)
        self.assertEqual(taker.take(200), "ef")
        self.assert_taker(taker, "abcdef", 6, 26, False)
        self.assertEqual(taker.take(200), "")
        self.assert_taker(taker, "abcdef", 6, 26, False)

    def test_of_nothing(self):
        taker = Taker(20)
        self.assertEqual(taker.take(1), "")
        self.assert_taker(taker, "", 0, 20, False)

    def test_nothing_behind_a_hole(self):
        taker = Taker(20)
        taker.put(0, "ab")
        taker.put(3, "de")
        self.assertEqual(taker.take(9), "ab")
        self.assertEqual(taker.take(9), "")
        self.assert_answer(taker, 2, 22, ((3, 5),))
        taker.put(2, "c")
        self.assertEqual(taker.take(9), "cde")

    def test_counts(self):
        taker = Taker(200)
        taker.put(0, "x" * 200)
        kept = state(taker)
        for count in (0, -1, -200, 201, 202, FAR):
            with self.assertRaises(TooMuch):
                taker.take(count)
            self.assertEqual(state(taker), kept)
        self.assertEqual(taker.take(200), "x" * 200)
        self.assertEqual(taker.read, 200)

    def test_two_hundred_of_more(self):
        taker = Taker(200)
        taker.put(0, "a" * 200)
        taker.take(100)
        taker.put(200, "b" * 100)
        self.assertEqual(taker.take(150), "a" * 100 + "b" * 50)
        self.assertEqual(taker.take(200), "b" * 50)
        self.assertEqual(taker.limit, 500)

    def test_done_where_all_up_to_the_end_was_read(self):
        taker = Taker(9)
        taker.put(0, "abc")
        taker.ends(3)
        self.assertIs(taker.is_done, False)
        taker.take(2)
        self.assertIs(taker.is_done, False)
        taker.take(1)
        self.assertIs(taker.is_done, True)
        self.assertEqual(taker.take(9), "")
        self.assertIs(taker.is_done, True)

    def test_not_done_without_an_end(self):
        taker = Taker(9)
        taker.put(0, "abc")
        taker.take(3)
        self.assertIs(taker.is_done, False)
        taker.ends(3)
        self.assertIs(taker.is_done, True)

    def test_not_done_ahead_of_the_end(self):
        taker = Taker(9)
        taker.put(0, "abc")
        taker.ends(4)
        taker.take(3)
        self.assertIs(taker.is_done, False)
        taker.put(3, "d")
        self.assertIs(taker.is_done, False)
        taker.take(1)
        self.assertIs(taker.is_done, True)


class Answer(TakerCase):
    def test_one_eight_and_nine_spans(self):
        for size in (0, 1, 7, 8, 9, 12):
            taker = Taker(200)
            spans = tuple([(2 + 3 * step, 3 + 3 * step) for step in range(size)])
            for begin, end in reversed(spans):
                taker.put(begin, "x")
            self.assert_answer(taker, 0, 200, spans[:8])

    def test_the_ninth_is_told_once_there_is_place(self):
        taker = Taker(200)
        for step in range(9):
            taker.put(2 + 3 * step, "x")
        taker.put(0, "ab")
        self.assert_answer(taker, 3, 200, tuple([(2 + 3 * step, 3 + 3 * step) for step in range(1, 9)]))

    def test_a_ninth_span_forbids_an_end_ahead_of_it(self):
        taker = Taker(200)
        for step in range(9):
            taker.put(2 + 3 * step, "x")
        taker.ends(26)
        taker.put(0, "y" * 40)
        self.assert_answer(taker, 40, 200, ())

    def test_it_changes_nothing(self):
        taker = Taker(20)
        taker.put(0, "ab")
        taker.put(4, "e")
        self.assertEqual(taker.answer(), taker.answer())
        self.assert_taker(taker, "ab", 0, 20, False)


class Model:
    """A taker once more, by single places and without any thrift."""

    def __init__(self, room):
        self.room = room
        self.signs = {}
        self.read = 0
        self.end = None

    def text(self):
        text = ""
        while len(text) in self.signs:
            text += self.signs[len(text)]
        return text

    def put(self, at, signs):
        for place, sign in enumerate(signs, start=at):
            if place < self.read + self.room and (self.end is None or place < self.end):
                self.signs.setdefault(place, sign)

    def ends(self, at):
        if self.end is None and not any([place >= at for place in self.signs]):
            self.end = at

    def take(self, count):
        signs = self.text()[self.read:][:count]
        self.read += len(signs)
        return signs

    def answer(self):
        come = len(self.text())
        spans = []
        for place in sorted([place for place in self.signs if place > come]):
            if spans and spans[-1][1] == place:
                spans[-1] = (spans[-1][0], place + 1)
            else:
                spans.append((place, place + 1))
        return (come + 1 if come == self.end else come, self.read + self.room, tuple(spans[:8]))


class AgainstTheModel(TakerCase):
    def test_many_ways(self):
        chance = random.Random(34)
        for turn in range(300):
            room = chance.randint(1, 40)
            taker = Taker(room)
            model = Model(room)
            for step in range(40):
                deed = chance.randint(0, 11)
                if deed <= 7:
                    at = max(0, len(taker.text) + chance.randint(-6, room + 3))
                    signs = "".join([chance.choice(ALPHABET) for place in range(chance.randint(0, 5))])
                    taker.put(at, signs)
                    model.put(at, signs)
                elif deed <= 10:
                    count = chance.randint(1, 6)
                    self.assertEqual(taker.take(count), model.take(count))
                elif chance.randint(0, 3) == 0:
                    at = max(0, len(taker.text) + chance.randint(-3, room + 9))
                    taker.ends(at)
                    model.ends(at)
                self.assert_taker(taker, model.text(), model.read, model.read + room, model.read == model.end)
                self.assertEqual(taker.answer(), model.answer())


if __name__ == "__main__":
    unittest.main()
