"""Points [40] to [43]: lives, and what a host knows of the other one."""

import random
import unittest

from ferry.meetings import Meeting

LIFE = 10 ** 9


def pieces(first, second):
    """A piece of each kind with these two lives (a hello alone where the second is none)."""
    made = [("hello", first, second)]
    if second > 0:
        made.append(("data", first, second, 4, 17, "a b c"))
        made.append(("end", first, second, 4, 60))
        made.append(("answer", first, second, 4, 22, 70, ((25, 30),)))
    return made


def meeting_of(mine, yours, is_met):
    meeting = Meeting(mine)
    if yours > 0:
        meeting.heard(("hello", yours, mine if is_met else 0))
    return meeting


class MeetingCase(unittest.TestCase):
    def assert_meeting(self, meeting, mine, yours, is_met):
        self.assertEqual((meeting.mine, meeting.yours), (mine, yours))
        self.assertIs(meeting.is_met, is_met)

    def assert_heard(self, told, is_fresh, is_known):
        self.assertIsInstance(told, tuple)
        self.assertEqual(len(told), 2)
        self.assertIs(told[0], is_fresh)
        self.assertIs(told[1], is_known)


class Making(MeetingCase):
    def test_all_values_are_there(self):
        for mine in (1, 2, 40, LIFE):
            self.assert_meeting(Meeting(mine), mine, 0, False)

    def test_two_have_nothing_to_do_with_one_another(self):
        one = Meeting(3)
        other = Meeting(3)
        one.heard(("hello", 7, 3))
        self.assert_meeting(other, 3, 0, False)


class Heard(MeetingCase):
    def test_each_pair_of_lives_in_each_kind_at_each_moment(self):
        mine = 5
        for yours, is_met in ((0, False), (3, False), (3, True)):
            for first in (1, 2, 3, 4, 5, 6, LIFE):
                for second in (0, 1, 4, 5, 6, LIFE):
                    for piece in pieces(first, second):
                        with self.subTest(yours=yours, is_met=is_met, piece=piece):
                            self.hear_one(meeting_of(mine, yours, is_met), piece)

    def hear_one(self, meeting, piece):
        mine, yours, is_met = meeting.mine, meeting.yours, meeting.is_met
        told = meeting.heard(piece)
        if piece[1] < yours or piece[2] > mine:
            self.assertIsNone(told)
            self.assert_meeting(meeting, mine, yours, is_met)
            return
        self.assert_heard(told, piece[1] > yours, piece[2] == mine)
        if piece[2] == mine:
            self.assert_meeting(meeting, mine, piece[1], True)
        elif piece[1] > yours:
            self.assert_meeting(meeting, mine, piece[1], False)
        else:
            self.assert_meeting(meeting, mine, yours, is_met)

    def test_the_first_piece(self):
        meeting = Meeting(2)
        self.assert_heard(meeting.heard(("hello", 3, 0)), True, False)
        self.assert_meeting(meeting, 2, 3, False)
        self.assert_heard(meeting.heard(("hello", 3, 2)), False, True)
        self.assert_meeting(meeting, 2, 3, True)

    def test_fresh_and_known_at_once(self):
        meeting = Meeting(2)
        self.assert_heard(meeting.heard(("data", 3, 2, 0, 0, "a")), True, True)
        self.assert_meeting(meeting, 2, 3, True)
        self.assert_heard(meeting.heard(("data", 4, 2, 0, 0, "a")), True, True)
        self.assert_meeting(meeting, 2, 4, True)

    def test_met_falls_with_a_fresh_one_that_is_not_known(self):
        for second in (0, 1):
            meeting = meeting_of(2, 3, True)
            self.assert_heard(meeting.heard(("hello", 4, second)), True, False)
            self.assert_meeting(meeting, 2, 4, False)

    def test_met_stays_with_one_that_is_neither(self):
        for second in (0, 1):
            meeting = meeting_of(2, 3, True)
            self.assert_heard(meeting.heard(("hello", 3, second)), False, False)
            self.assert_meeting(meeting, 2, 3, True)

    def test_old_ones(self):
        meeting = meeting_of(2, 3, True)
        for piece in pieces(2, 2) + pieces(1, 0) + pieces(1, 1) + pieces(2, 3):
            self.assertIsNone(meeting.heard(piece))
            self.assert_meeting(meeting, 2, 3, True)

    def test_a_second_life_above_mine_even_of_a_fresh_one(self):
        meeting = meeting_of(2, 3, False)
        for piece in pieces(3, 3) + pieces(4, 3) + pieces(LIFE, LIFE):
            self.assertIsNone(meeting.heard(piece))
            self.assert_meeting(meeting, 2, 3, False)

    def test_the_piece_is_as_it_was(self):
        for piece in pieces(3, 2):
            kept = repr(piece)
            Meeting(2).heard(piece)
            self.assertEqual(repr(piece), kept)


class Hellos(MeetingCase):
    def assert_hellos(self, meeting, hello, reply):
        self.assertEqual(meeting.hello(), hello)
        self.assertEqual(meeting.reply(), reply)
        self.assertIsInstance(meeting.hello(), tuple)
        self.assertIsInstance(meeting.reply(), tuple)

    def test_at_each_moment(self):
        meeting = Meeting(4)
        self.assert_hellos(meeting, ("hello", 4, 0), ("hello", 4, 0))
        meeting.heard(("hello", 3, 0))
        self.assert_hellos(meeting, ("hello", 4, 0), ("hello", 4, 3))
        meeting.heard(("hello", 3, 4))
        self.assert_hellos(meeting, ("hello", 4, 0), ("hello", 4, 3))
        meeting.heard(("hello", 5, 0))
        self.assert_hellos(meeting, ("hello", 4, 0), ("hello", 4, 5))
        meeting.heard(("hello", 4, 4))
        self.assert_hellos(meeting, ("hello", 4, 0), ("hello", 4, 5))

    def test_they_change_nothing(self):
        for meeting in (Meeting(4), meeting_of(4, 3, False), meeting_of(4, 3, True)):
            kept = (meeting.mine, meeting.yours, meeting.is_met)
            meeting.hello()
            meeting.reply()
            self.assertEqual((meeting.mine, meeting.yours, meeting.is_met), kept)

    def test_a_hello_that_asks_is_never_known(self):
        for mine in (1, 2, LIFE):
            asked = Meeting(mine)
            self.assert_heard(asked.heard(Meeting(1).hello()), True, False)
            self.assert_heard(asked.heard(Meeting(1).hello()), False, False)


class Together(MeetingCase):
    """[43]"""

    def test_one_hello_and_its_reply_and_both_are_met(self):
        for mine, yours in ((1, 1), (1, 5), (5, 1), (3, 40)):
            for knows in (0, 1):
                one = meeting_of(mine, yours - 1 if knows else 0, False)
                other = meeting_of(yours, mine - 1 if knows else 0, False)
                other.heard(one.hello())
                one.heard(other.reply())
                one.heard(other.hello())
                other.heard(one.reply())
                self.assert_meeting(one, mine, yours, True)
                self.assert_meeting(other, yours, mine, True)

    def test_a_life_that_has_ended_is_old_once_a_later_one_was_heard(self):
        meeting = meeting_of(2, 3, True)
        for piece in pieces(3, 2):
            self.assertIsNotNone(meeting.heard(piece))
        meeting.heard(("hello", 4, 0))
        for piece in pieces(3, 2) + pieces(3, 0) + pieces(1, 2):
            self.assertIsNone(meeting.heard(piece))
        for piece in pieces(4, 2):
            self.assertIsNotNone(meeting.heard(piece))

    def test_yours_never_falls(self):
        chance = random.Random(43)
        for turn in range(300):
            meeting = Meeting(chance.randint(1, 6))
            greatest = 0
            for step in range(30):
                piece = chance.choice(pieces(chance.randint(1, 6), chance.randint(0, 6)))
                told = meeting.heard(piece)
                self.assertGreaterEqual(meeting.yours, greatest)
                self.assertEqual(told is None, piece[1] < greatest or piece[2] > meeting.mine)
                greatest = meeting.yours


if __name__ == "__main__":
    unittest.main()
