"""Points [30] to [33]: the sending side of a stream."""

import random
import unittest

from ferry.errors import Ended, TooMuch
from ferry.givers import Giver

FAR = 10 ** 12
ALPHABET = "abcdefghijklmnopqrstuvwxyz"


def state(giver):
    return (giver.text, giver.sent, giver.come, giver.limit, giver.spans, giver.is_ended, giver.is_heard,
            giver.is_done)


def given(most, text, limit=FAR):
    """A giver of a text that has taken an answer, if a limit is told."""
    giver = Giver(most)
    for at in range(0, len(text), 200):
        giver.write(text[at:at + 200])
    if limit is not None:
        giver.answered(0, limit, ())
    return giver


class GiverCase(unittest.TestCase):
    def assert_refused(self, refusal, giver, method, *arguments):
        kept = state(giver)
        parts = giver.again(FAR)
        with self.assertRaises(refusal):
            method(*arguments)
        self.assertEqual(state(giver), kept)
        self.assertEqual(giver.again(FAR), parts)

    def assert_no_answer(self, giver, come, limit, spans=()):
        kept = state(giver)
        self.assertIsNone(giver.answered(come, limit, spans))
        self.assertEqual(state(giver), kept)

    def assert_parts(self, told, parts):
        self.assertEqual(told, parts)
        self.assertEqual(repr(told), repr(parts))


class Making(GiverCase):
    def test_all_values_are_there(self):
        for most in (1, 7, 40):
            giver = Giver(most)
            self.assertEqual(state(giver), ("", 0, 0, 1, (), False, False, False))
            for truth in (giver.is_ended, giver.is_heard, giver.is_done):
                self.assertIs(truth, False)

    def test_two_have_nothing_to_do_with_one_another(self):
        one = given(3, "abcdef")
        other = Giver(3)
        one.next_parts(9)
        one.answered(2, 9, ((4, 5),))
        one.finish()
        self.assertEqual(state(other), ("", 0, 0, 1, (), False, False, False))


class Write(GiverCase):
    def test_behind_what_was_written(self):
        giver = Giver(5)
        self.assertIsNone(giver.write("ab "))
        self.assertIsNone(giver.write(" c"))
        self.assertEqual(giver.text, "ab  c")
        self.assertEqual(giver.sent, 0)

    def test_lengths(self):
        giver = Giver(5)
        self.assert_refused(TooMuch, giver, giver.write, "")
        self.assert_refused(TooMuch, giver, giver.write, "x" * 201)
        giver.write("a")
        giver.write("b" * 200)
        self.assert_refused(TooMuch, giver, giver.write, "")
        self.assert_refused(TooMuch, giver, giver.write, "x" * 201)
        self.assertEqual(giver.text, "a" + "b" * 200)

    def test_two_thousand_in_all(self):
        giver = Giver(5)
        for turn in range(9):
            giver.write("x" * 200)
        giver.write("y" * 199)
        self.assert_refused(TooMuch, giver, giver.write, "zz")
        self.assert_refused(TooMuch, giver, giver.write, "z" * 200)
        giver.write("z")
        self.assertEqual(len(giver.text), 2000)
        self.assert_refused(TooMuch, giver, giver.write, "z")
        self.assert_refused(TooMuch, giver, giver.write, "")

    def test_what_was_sent_and_answered_counts_too(self):
        giver = given(40, "x" * 2000)
        giver.next_parts(FAR)
        giver.answered(2000, 2200, ())
        self.assert_refused(TooMuch, giver, giver.write, "z")

    def test_behind_finish(self):
        giver = Giver(5)
        giver.write("ab")
        self.assertIsNone(giver.finish())
        self.assertIs(giver.is_ended, True)
        for signs in ("c", "", "x" * 200, "x" * 201):
            self.assert_refused(Ended, giver, giver.write, signs)

    def test_behind_finish_with_all_written(self):
        giver = given(5, "x" * 2000)
        giver.finish()
        self.assert_refused(Ended, giver, giver.write, "z")

    def test_finish_twice(self):
        for signs in ("", "ab"):
            giver = given(5, signs)
            giver.finish()
            self.assertEqual(giver.text, signs)
            self.assert_refused(Ended, giver, giver.finish)
            giver.next_parts(FAR)
            self.assert_refused(Ended, giver, giver.finish)
            giver.answered(len(signs) + 1, 20, ())
            self.assertIs(giver.is_done, True)
            self.assert_refused(Ended, giver, giver.finish)


class Answered(GiverCase):
    def test_it_grows(self):
        giver = given(5, ALPHABET, None)
        self.assertIsNone(giver.answered(0, 10, ()))
        self.assertEqual((giver.come, giver.limit, giver.spans, giver.is_heard), (0, 10, (), True))
        self.assertIs(giver.is_heard, True)
        giver.answered(4, 14, ((6, 8),))
        self.assertEqual((giver.come, giver.limit, giver.spans), (4, 14, ((6, 8),)))
        giver.answered(5, 20, ((10, 12),))
        self.assertEqual((giver.come, giver.limit, giver.spans), (5, 20, ((6, 8), (10, 12))))

    def test_late_and_twice_lowers_nothing(self):
        giver = given(5, ALPHABET, None)
        giver.answered(9, 19, ((12, 15),))
        kept = state(giver)
        giver.answered(9, 19, ((12, 15),))
        giver.answered(0, 10, ())
        giver.answered(3, 13, ((5, 7),))
        giver.answered(8, 19, ((12, 13),))
        self.assertEqual(state(giver), kept)

    def test_come_and_limit_grow_by_themselves(self):
        giver = given(5, ALPHABET, None)
        giver.answered(9, 19, ())
        giver.answered(3, 25, ())
        self.assertEqual((giver.come, giver.limit), (9, 25))
        giver.answered(12, 15, ())
        self.assertEqual((giver.come, giver.limit), (12, 25))

    def test_the_limit_is_at_least_the_first_one(self):
        giver = given(5, ALPHABET, None)
        giver.answered(0, 0, ())
        self.assertEqual(giver.limit, 1)
        self.assertIs(giver.is_heard, True)
        giver.answered(1, 0, ())
        self.assertEqual((giver.come, giver.limit), (1, 1))

    def test_come_over_what_was_written_before_finish(self):
        giver = given(5, "abc", None)
        self.assert_no_answer(giver, 4, 10)
        self.assert_no_answer(giver, 5, 10)
        self.assert_no_answer(giver, FAR, FAR)
        self.assertIs(giver.is_heard, False)
        giver.answered(3, 10, ())
        self.assertEqual((giver.come, giver.is_heard, giver.is_done), (3, True, False))

    def test_come_over_what_was_written_behind_finish(self):
        giver = given(5, "abc", None)
        giver.finish()
        self.assert_no_answer(giver, 5, 10)
        self.assertIs(giver.is_heard, False)
        giver.answered(3, 10, ())
        self.assertIs(giver.is_done, False)
        giver.answered(4, 10, ())
        self.assertEqual((giver.come, giver.is_done), (4, True))

    def test_come_of_nothing_written(self):
        giver = Giver(5)
        self.assert_no_answer(giver, 1, 10)
        giver.finish()
        self.assert_no_answer(giver, 2, 10)
        giver.answered(1, 10, ())
        self.assertEqual((giver.come, giver.is_done), (1, True))

    def test_limit_and_one_below_come(self):
        giver = given(5, ALPHABET, None)
        self.assert_no_answer(giver, 9, 7)
        self.assert_no_answer(giver, 9, 0)
        self.assert_no_answer(giver, 2, 0, ((4, 6),))
        self.assertIs(giver.is_heard, False)
        giver.answered(9, 8, ())
        self.assertEqual((giver.come, giver.limit, giver.is_heard), (9, 8, True))
        giver.answered(10, 10, ())
        self.assertEqual((giver.come, giver.limit), (10, 10))

    def test_what_is_no_answer_tells_no_limit_and_no_spans(self):
        giver = given(5, "abcdef", 4)
        self.assert_no_answer(giver, 7, 100, ((2, 4),))
        self.assert_no_answer(giver, 4, 2, ((5, 6),))

    def test_far_limits(self):
        giver = given(5, "abc", None)
        giver.answered(0, FAR, ())
        self.assertEqual(giver.limit, FAR)
        giver.answered(0, 10, ())
        self.assertEqual(giver.limit, FAR)

    def test_spans_below_come_are_left_out(self):
        giver = given(5, ALPHABET)
        giver.answered(10, 30, ((2, 4), (6, 12), (14, 15)))
        self.assertEqual(giver.spans, ((10, 12), (14, 15)))
        self.assertEqual(giver.come, 10)
        giver.answered(3, 30, ((5, 8),))
        self.assertEqual(giver.spans, ((10, 12), (14, 15)))
        giver.answered(11, 30, ())
        self.assertEqual(giver.spans, ((11, 12), (14, 15)))
        giver.answered(12, 30, ())
        self.assertEqual(giver.spans, ((14, 15),))
        giver.answered(20, 30, ())
        self.assertEqual(giver.spans, ())

    def test_spans_at_nought(self):
        giver = given(5, ALPHABET)
        giver.answered(0, 30, ((0, 2), (4, 5)))
        self.assertEqual((giver.come, giver.spans), (0, ((0, 2), (4, 5))))

    def test_spans_beyond_what_was_written_are_left_out(self):
        giver = given(5, "abcdefgh")
        giver.answered(0, 30, ((8, 9), (20, FAR)))
        self.assertEqual(giver.spans, ())
        giver.answered(0, 30, ((7, 12),))
        self.assertEqual(giver.spans, ((7, 8),))
        giver.answered(0, 30, ((4, 5), (FAR - 1, FAR)))
        self.assertEqual(giver.spans, ((4, 5), (7, 8)))
        giver.write("ijkl")
        self.assertEqual(giver.spans, ((4, 5), (7, 8)))
        giver.answered(0, 30, ((7, 12),))
        self.assertEqual(giver.spans, ((4, 5), (7, 12)))

    def test_spans_over_both_ends(self):
        giver = given(5, "abcdefgh")
        giver.answered(3, 30, ((1, FAR),))
        self.assertEqual(giver.spans, ((3, 8),))
        giver.answered(8, 30, ((1, FAR),))
        self.assertEqual(giver.spans, ())

    def test_spans_join(self):
        giver = given(5, ALPHABET)
        giver.answered(0, 30, ((4, 6), (10, 12)))
        giver.answered(0, 30, ((6, 8), (11, 14)))
        self.assertEqual(giver.spans, ((4, 8), (10, 14)))
        giver.answered(0, 30, ((2, 12),))
        self.assertEqual(giver.spans, ((2, 14),))
        self.assertEqual(repr(giver.spans), "((2, 14),)")

    def test_what_was_told_stays(self):
        giver = given(5, ALPHABET)
        giver.answered(0, 30, ((4, 6),))
        spans = giver.spans
        giver.answered(5, 30, ((8, 9),))
        self.assertEqual(spans, ((4, 6),))

    def test_an_answer_sends_nothing(self):
        giver = given(5, ALPHABET)
        giver.answered(9, 30, ((12, 15),))
        self.assertEqual((giver.sent, giver.text), (0, ALPHABET))


class NextParts(GiverCase):
    def test_the_first_sign_ahead_of_any_answer(self):
        giver = given(5, "abcdef", None)
        self.assert_parts(giver.next_parts(10), [("data", 0, "a")])
        self.assertEqual(giver.sent, 1)
        self.assert_parts(giver.next_parts(10), [])
        giver.answered(1, 4, ())
        self.assert_parts(giver.next_parts(10), [("data", 1, "bcd")])

    def test_count(self):
        giver = given(3, "abcdefgh")
        self.assert_parts(giver.next_parts(0), [])
        self.assertEqual(giver.sent, 0)
        self.assert_parts(giver.next_parts(1), [("data", 0, "abc")])
        self.assertEqual(giver.sent, 3)
        self.assert_parts(giver.next_parts(2), [("data", 3, "def"), ("data", 6, "gh")])
        self.assertEqual(giver.sent, 8)
        self.assert_parts(giver.next_parts(5), [])
        self.assertEqual(giver.sent, 8)

    def test_many(self):
        giver = given(1, "abc")
        self.assert_parts(giver.next_parts(FAR), [("data", 0, "a"), ("data", 1, "b"), ("data", 2, "c")])
        giver = given(40, "x" * 100)
        self.assert_parts(giver.next_parts(3), [("data", 0, "x" * 40), ("data", 40, "x" * 40), ("data", 80, "x" * 20)])

    def test_parts_that_end_just_at_the_end(self):
        giver = given(4, "abcdefgh")
        self.assert_parts(giver.next_parts(9), [("data", 0, "abcd"), ("data", 4, "efgh")])

    def test_none_beyond_the_limit(self):
        giver = given(4, "abcdefghij", 6)
        self.assert_parts(giver.next_parts(9), [("data", 0, "abcd"), ("data", 4, "ef")])
        self.assertEqual(giver.sent, 6)
        self.assert_parts(giver.next_parts(9), [])
        giver.answered(0, 7, ())
        self.assert_parts(giver.next_parts(9), [("data", 6, "g")])
        giver.answered(0, 9, ())
        self.assert_parts(giver.next_parts(9), [("data", 7, "hi")])

    def test_more_that_is_written_later(self):
        giver = given(4, "abcdef")
        giver.next_parts(9)
        giver.write("gh")
        self.assert_parts(giver.next_parts(9), [("data", 6, "gh")])

    def test_the_end_in_the_same_list(self):
        giver = given(4, "abcdef")
        giver.finish()
        self.assert_parts(giver.next_parts(9), [("data", 0, "abcd"), ("data", 4, "ef"), ("end", 6)])
        self.assert_parts(giver.next_parts(9), [])

    def test_the_end_in_a_later_list(self):
        giver = given(4, "abcdef")
        giver.finish()
        self.assert_parts(giver.next_parts(2), [("data", 0, "abcd"), ("data", 4, "ef")])
        self.assert_parts(giver.next_parts(0), [])
        self.assert_parts(giver.next_parts(1), [("end", 6)])
        self.assert_parts(giver.next_parts(1), [])
        self.assertEqual(giver.sent, 6)

    def test_the_end_where_finish_is_done_later(self):
        giver = given(4, "abcdef")
        self.assert_parts(giver.next_parts(9), [("data", 0, "abcd"), ("data", 4, "ef")])
        giver.finish()
        self.assert_parts(giver.next_parts(9), [("end", 6)])
        self.assert_parts(giver.next_parts(9), [])

    def test_no_end_where_the_last_sign_is_beyond_the_limit(self):
        giver = given(4, "abcdef", 5)
        giver.finish()
        self.assert_parts(giver.next_parts(9), [("data", 0, "abcd"), ("data", 4, "e")])
        self.assert_parts(giver.next_parts(9), [])
        giver.answered(0, 6, ())
        self.assert_parts(giver.next_parts(9), [("data", 5, "f"), ("end", 6)])

    def test_the_end_ahead_of_any_answer(self):
        giver = given(4, "a", None)
        giver.finish()
        self.assert_parts(giver.next_parts(9), [("data", 0, "a"), ("end", 1)])

    def test_nothing_written_but_finished(self):
        giver = Giver(4)
        self.assert_parts(giver.next_parts(9), [])
        giver.finish()
        self.assert_parts(giver.next_parts(0), [])
        self.assert_parts(giver.next_parts(9), [("end", 0)])
        self.assert_parts(giver.next_parts(9), [])

    def test_answers_do_not_count_as_sent(self):
        giver = given(4, "abcdef")
        giver.answered(3, 10, ((4, 5),))
        self.assert_parts(giver.next_parts(9), [("data", 0, "abcd"), ("data", 4, "ef")])

    def test_the_list_is_the_askers_own(self):
        giver = given(2, "abcdef")
        parts = giver.next_parts(2)
        parts.clear()
        self.assert_parts(giver.again(9), [("data", 0, "ab"), ("data", 2, "cd")])
        self.assert_parts(giver.next_parts(9), [("data", 4, "ef")])


class Again(GiverCase):
    def test_all_that_was_sent(self):
        giver = given(3, "abcdefgh")
        giver.next_parts(2)
        self.assert_parts(giver.again(9), [("data", 0, "abc"), ("data", 3, "def")])
        self.assert_parts(giver.again(2), [("data", 0, "abc"), ("data", 3, "def")])
        self.assert_parts(giver.again(1), [("data", 0, "abc")])
        self.assert_parts(giver.again(0), [])

    def test_holes_ahead_of_between_and_behind_known_spans(self):
        giver = given(4, ALPHABET)
        giver.next_parts(FAR)
        giver.answered(2, FAR, ((3, 5), (10, 20)))
        self.assert_parts(giver.again(FAR), [("data", 2, "c"), ("data", 5, "fghi"), ("data", 9, "j"),
                                             ("data", 20, "uvwx"), ("data", 24, "yz")])
        self.assert_parts(giver.again(3), [("data", 2, "c"), ("data", 5, "fghi"), ("data", 9, "j")])

    def test_only_up_to_what_was_sent(self):
        giver = given(4, ALPHABET, 10)
        giver.next_parts(FAR)
        giver.answered(2, 10, ((5, 7),))
        self.assert_parts(giver.again(FAR), [("data", 2, "cde"), ("data", 7, "hij")])
        giver.answered(2, 10, ((8, 15),))
        self.assert_parts(giver.again(FAR), [("data", 2, "cde"), ("data", 7, "h")])

    def test_a_hole_just_as_long_as_most_and_one_longer(self):
        for most, parts in ((4, [("data", 2, "cdef")]), (3, [("data", 2, "cde"), ("data", 5, "f")]),
                            (2, [("data", 2, "cd"), ("data", 4, "ef")]), (40, [("data", 2, "cdef")])):
            giver = given(most, "abcdefgh")
            giver.next_parts(FAR)
            giver.answered(2, 10, ((6, 8),))
            self.assert_parts(giver.again(FAR), parts)

    def test_known_spans_from_come_on(self):
        giver = given(4, "abcdefgh")
        giver.next_parts(FAR)
        giver.answered(2, 10, ((1, 5),))
        self.assert_parts(giver.again(FAR), [("data", 5, "fgh")])

    def test_the_end_while_it_is_not_answered(self):
        giver = given(4, "abcdef")
        giver.finish()
        giver.next_parts(FAR)
        self.assert_parts(giver.again(FAR), [("data", 0, "abcd"), ("data", 4, "ef")])
        giver.answered(5, 10, ())
        self.assert_parts(giver.again(FAR), [("data", 5, "f")])
        giver.answered(6, 10, ())
        self.assert_parts(giver.again(0), [])
        self.assert_parts(giver.again(1), [("end", 6)])
        self.assert_parts(giver.again(FAR), [("end", 6)])
        giver.answered(7, 10, ())
        self.assert_parts(giver.again(FAR), [])

    def test_the_end_where_all_but_come_is_known(self):
        giver = given(4, "abcdef")
        giver.finish()
        giver.next_parts(FAR)
        giver.answered(2, 10, ((2, 6),))
        self.assert_parts(giver.again(FAR), [("end", 6)])

    def test_no_end_that_was_not_sent(self):
        giver = given(4, "abcdef")
        giver.finish()
        giver.next_parts(2)
        giver.answered(6, 10, ())
        self.assert_parts(giver.again(FAR), [])
        self.assert_parts(giver.next_parts(FAR), [("end", 6)])
        self.assert_parts(giver.again(FAR), [("end", 6)])

    def test_the_end_of_nothing_written(self):
        giver = Giver(4)
        giver.finish()
        self.assert_parts(giver.again(FAR), [("data", 0, "")])
        giver.next_parts(1)
        self.assert_parts(giver.again(FAR), [("end", 0)])
        giver.answered(0, 10, ())
        self.assert_parts(giver.again(FAR), [("end", 0)])
        giver.answered(1, 10, ())
        self.assert_parts(giver.again(FAR), [])

    def test_it_asks_where_no_answer_was_taken(self):
        giver = Giver(4)
        self.assert_parts(giver.again(0), [])
        self.assert_parts(giver.again(1), [("data", 0, "")])
        self.assert_parts(giver.again(FAR), [("data", 0, "")])
        giver.answered(5, 10, ())
        self.assert_parts(giver.again(FAR), [("data", 0, "")])
        giver.answered(0, 10, ())
        self.assert_parts(giver.again(FAR), [])

    def test_it_asks_where_something_was_not_sent(self):
        giver = given(4, "abcdef", 3)
        self.assert_parts(giver.again(FAR), [("data", 0, "")])
        giver.next_parts(FAR)
        self.assert_parts(giver.again(FAR), [("data", 0, "abc")])
        giver.answered(0, 3, ((0, 3),))
        self.assert_parts(giver.again(FAR), [("data", 3, "")])
        giver.answered(3, 3, ())
        self.assert_parts(giver.again(FAR), [("data", 3, "")])
        giver.answered(3, 6, ())
        self.assert_parts(giver.again(FAR), [("data", 3, "")])
        giver.next_parts(FAR)
        giver.answered(6, 9, ())
        self.assert_parts(giver.again(FAR), [])

    def test_it_asks_where_finish_was_done_and_something_was_not_sent(self):
        giver = given(4, "abcdef", 3)
        giver.finish()
        giver.next_parts(FAR)
        giver.answered(3, 3, ())
        self.assert_parts(giver.again(FAR), [("data", 3, "")])

    def test_nothing_is_left_while_it_is_not_finished(self):
        giver = given(4, "abcdef")
        giver.next_parts(FAR)
        giver.answered(6, 10, ())
        self.assert_parts(giver.again(FAR), [])
        giver.write("g")
        self.assert_parts(giver.again(FAR), [("data", 6, "")])

    def test_come_behind_what_was_sent(self):
        giver = given(2, "abcdef")
        giver.next_parts(1)
        giver.answered(4, 10, ())
        self.assert_parts(giver.again(FAR), [("data", 2, "")])
        self.assert_parts(giver.next_parts(1), [("data", 2, "cd")])

    def test_it_changes_nothing(self):
        giver = given(3, "abcdefgh", 7)
        giver.finish()
        for turn in range(4):
            kept = state(giver)
            parts = giver.again(FAR)
            parts_then = list(parts)
            for count in (0, 1, FAR):
                giver.again(count)
            self.assertEqual(state(giver), kept)
            parts.clear()
            self.assert_parts(giver.again(FAR), parts_then)
            giver.next_parts(1)

    def test_next_parts_go_on_behind_again(self):
        giver = given(3, "abcdefgh")
        giver.next_parts(1)
        giver.again(FAR)
        self.assert_parts(giver.next_parts(1), [("data", 3, "def")])


class IsDone(GiverCase):
    def test_just_where_finish_was_done_and_come_is_the_length_and_one(self):
        giver = given(4, "abc")
        giver.next_parts(FAR)
        giver.answered(3, 10, ())
        self.assertIs(giver.is_done, False)
        giver.answered(4, 10, ())
        self.assertIs(giver.is_done, False)
        giver.finish()
        self.assertIs(giver.is_done, False)
        giver.answered(3, 10, ())
        self.assertIs(giver.is_done, False)
        giver.answered(4, 10, ())
        self.assertIs(giver.is_done, True)
        giver.answered(0, 10, ())
        self.assertIs(giver.is_done, True)
        giver.answered(5, 10, ())
        self.assertIs(giver.is_done, True)


class Model:
    """A giver once more, by single places and without any thrift."""

    def __init__(self, most):
        self.most = most
        self.text = ""
        self.sent = 0
        self.come = 0
        self.limit = 1
        self.known = set()
        self.ended = False
        self.end_sent = False
        self.heard = False

    def answered(self, come, limit, spans):
        if come > len(self.text) + (1 if self.ended else 0) or limit + 1 < come:
            return
        self.heard = True
        self.come = max(self.come, come)
        self.limit = max(self.limit, limit)
        for begin, end in spans:
            self.known |= set(range(begin, min(end, len(self.text))))
        self.known = {place for place in self.known if place >= self.come}

    def next_parts(self, count):
        parts = []
        while len(parts) < count:
            signs = self.text[self.sent:min(self.limit, self.sent + self.most)]
            if signs:
                parts.append(("data", self.sent, signs))
                self.sent += len(signs)
            elif self.ended and self.sent == len(self.text) and not self.end_sent:
                parts.append(("end", self.sent))
                self.end_sent = True
            else:
                break
        return parts

    def again(self, count):
        parts = []
        part = None
        for place in range(self.come, self.sent):
            if place in self.known:
                part = None
            elif part is None or len(part[2]) == self.most:
                part = ["data", place, self.text[place]]
                parts.append(part)
            else:
                part[2] += self.text[place]
        parts = [tuple(part) for part in parts]
        if not parts and self.end_sent and self.come <= len(self.text):
            parts = [("end", len(self.text))]
        if not parts and (self.sent < len(self.text) or not self.heard):
            parts = [("data", self.sent, "")]
        return parts[:count]


class AgainstTheModel(GiverCase):
    def spans_by_chance(self, chance):
        spans = []
        place = 0
        for turn in range(chance.randint(0, 3)):
            begin = place + chance.randint(0 if turn == 0 else 1, 8)
            place = begin + chance.randint(1, 8)
            spans.append((begin, place))
        return tuple(spans)

    def step(self, chance, giver, model):
        deed = chance.randint(0, 9)
        if deed <= 2 and not model.ended:
            signs = "".join([chance.choice(ALPHABET) for place in range(chance.randint(1, 9))])
            giver.write(signs)
            model.text += signs
        elif deed <= 5:
            answer = (chance.randint(0, len(model.text) + 2), chance.randint(0, len(model.text) + 6),
                      self.spans_by_chance(chance))
            giver.answered(*answer)
            model.answered(*answer)
        elif deed <= 8:
            count = chance.randint(0, 3)
            self.assert_parts(giver.next_parts(count), model.next_parts(count))
        elif not model.ended and chance.randint(0, 2) == 0:
            giver.finish()
            model.ended = True

    def test_many_ways(self):
        chance = random.Random(33)
        for turn in range(400):
            most = chance.randint(1, 6)
            giver = Giver(most)
            model = Model(most)
            for step in range(30):
                self.step(chance, giver, model)
                self.assertEqual(state(giver)[:4], (model.text, model.sent, model.come, model.limit))
                known = {place for begin, end in giver.spans for place in range(begin, end)}
                self.assertEqual(known, model.known)
                self.assertEqual((giver.is_ended, giver.is_heard), (model.ended, model.heard))
                self.assertIs(giver.is_done, model.ended and model.come == len(model.text) + 1)
                for count in (0, 1, 2, FAR):
                    self.assert_parts(giver.again(count), model.again(count))


if __name__ == "__main__":
    unittest.main()
