"""Points [50] to [55]: a host by itself, and what it does with the texts that come to it."""

import unittest

from ferry.errors import Broken, Ended, NoStream, NotMet, TooMuch
from ferry.givers import Giver
from ferry.hosts import Host
from ferry.pieces import read, written
from ferry.takers import Taker

FAR = 10 ** 12
LIFE = 10 ** 9
PLACE = 10 ** 6


def text(*parts):
    return written(parts)


def pieces(texts):
    return [read(one) for one in texts]


def met_host(room=10, most=5, budget=3, yours=1):
    host = Host(room, most, budget)
    host.hear(text("hello", yours, 1))
    return host


def giver_state(giver):
    return (giver.text, giver.sent, giver.come, giver.limit, giver.spans, giver.is_ended, giver.is_heard,
            giver.is_done, giver.again(FAR))


def taker_state(taker):
    return (taker.text, taker.read, taker.limit, taker.is_done, taker.answer())


def state(host):
    """All that can be asked of a host without a change."""
    return (host.life, host.meeting.mine, host.meeting.yours, host.meeting.is_met,
            host.streams(), host.others(), host.broken(),
            [giver_state(host.giver(stream)) for stream in host.streams()],
            [taker_state(host.taker(stream)) for stream in host.others()])


class HostCase(unittest.TestCase):
    def assert_refused(self, refusal, host, method, *arguments):
        kept = state(host)
        with self.assertRaises(refusal):
            method(*arguments)
        self.assertEqual(state(host), kept)

    def assert_as_at_first(self, host, life):
        self.assertEqual(state(host), (life, life, 0, False, [], [], [], [], []))
        self.assertIs(host.meeting.is_met, False)

    def assert_left_alone(self, host, heard):
        kept = state(host)
        self.assertEqual(host.hear(heard), [])
        self.assertEqual(state(host), kept)

    def assert_answers(self, host, heard, *expected):
        self.assertEqual(pieces(host.hear(text(*heard))), list(expected))

    def assert_tick(self, host, *expected):
        told = host.tick()
        self.assertIsInstance(told, list)
        self.assertEqual(pieces(told), list(expected))


class Making(HostCase):
    def test_all_values_are_there(self):
        for room, most, budget in ((1, 1, 1), (200, 40, 20), (10, 5, 3)):
            self.assert_as_at_first(Host(room, most, budget), 1)

    def test_two_have_nothing_to_do_with_one_another(self):
        one = met_host()
        one.start()
        one.hear(text("data", 1, 1, 3, 0, "abc"))
        self.assert_as_at_first(Host(10, 5, 3), 1)

    def test_room_and_most_are_those_of_its_sides(self):
        host = met_host(room=7, most=4)
        host.start()
        host.write(0, "abcdefgh")
        host.hear(text("answer", 1, 1, 0, 0, 100, ()))
        self.assert_tick(host, ("data", 1, 1, 0, 0, "abcd"))
        self.assert_answers(host, ("data", 1, 1, 0, 0, "abcdefghi"), ("answer", 1, 1, 0, 7, 7, ()))

    def test_a_most_somewhat_beyond_forty_still_makes_pieces(self):
        host = met_host(most=45)
        host.start()
        host.write(0, "x" * 60)
        host.hear(text("answer", 1, 1, 0, 0, 100, ()))
        self.assert_tick(host, ("data", 1, 1, 0, 0, "x" * 40))
        self.assert_tick(host, ("data", 1, 1, 0, 40, "x" * 20))


class Start(HostCase):
    def test_ahead_of_any_meeting(self):
        host = Host(10, 5, 3)
        self.assert_refused(NotMet, host, host.start)
        host.tick()
        self.assert_refused(NotMet, host, host.start)

    def test_where_the_other_life_is_known_but_it_is_not_met(self):
        host = Host(10, 5, 3)
        host.hear(text("hello", 1, 0))
        self.assertIs(host.meeting.is_met, False)
        self.assertEqual(host.start(), 0)

    def test_the_numbers(self):
        host = met_host()
        self.assertEqual([host.start() for turn in range(3)], [0, 1, 2])
        self.assertEqual(host.streams(), [0, 1, 2])
        self.assertEqual(host.others(), [])
        self.assertEqual(host.broken(), [])

    def test_the_fiftieth_and_the_fifty_first(self):
        host = met_host()
        self.assertEqual([host.start() for turn in range(50)], list(range(50)))
        self.assert_refused(TooMuch, host, host.start)
        self.assertEqual(host.streams(), list(range(50)))

    def test_broken_ones_are_counted(self):
        host = met_host()
        for turn in range(20):
            host.start()
        host.hear(text("hello", 2, 1))
        self.assertEqual([host.start() for turn in range(30)], list(range(20, 50)))
        self.assert_refused(TooMuch, host, host.start)
        host.hear(text("hello", 3, 1))
        self.assertEqual(host.broken(), list(range(50)))
        self.assert_refused(TooMuch, host, host.start)

    def test_done_ones_are_counted(self):
        host = met_host()
        for turn in range(50):
            host.start()
            host.finish(turn)
            host.hear(text("answer", 1, 1, turn, 1, 10, ()))
            self.assertIs(host.giver(turn).is_done, True)
        self.assert_refused(TooMuch, host, host.start)

    def test_in_the_next_life(self):
        host = met_host()
        for turn in range(50):
            host.start()
        host.fall()
        self.assert_refused(NotMet, host, host.start)
        host.hear(text("hello", 1, 2))
        self.assertEqual([host.start() for turn in range(50)], list(range(50)))
        self.assert_refused(TooMuch, host, host.start)


class Sides(HostCase):
    def test_write_and_finish_are_the_givers(self):
        host = met_host()
        host.start()
        host.start()
        self.assertIsNone(host.write(1, "ab"))
        self.assertIsNone(host.write(1, "c"))
        self.assertIsNone(host.write(0, "x"))
        self.assertIsNone(host.finish(1))
        self.assertIsInstance(host.giver(0), Giver)
        self.assertEqual((host.giver(0).text, host.giver(0).is_ended), ("x", False))
        self.assertEqual((host.giver(1).text, host.giver(1).is_ended), ("abc", True))

    def test_take_is_the_takers(self):
        host = met_host()
        host.hear(text("data", 1, 1, 4, 0, "abcd"))
        host.hear(text("data", 1, 1, 9, 0, "xyz"))
        self.assertEqual(host.take(4, 3), "abc")
        self.assertEqual(host.take(9, 200), "xyz")
        self.assertEqual(host.take(4, 1), "d")
        self.assertEqual(host.take(4, 1), "")
        self.assertIsInstance(host.taker(4), Taker)
        self.assertEqual((host.taker(4).text, host.taker(4).read), ("abcd", 4))

    def test_own_streams_and_the_others_have_numbers_of_their_own(self):
        host = met_host()
        host.start()
        host.hear(text("data", 1, 1, 3, 0, "abc"))
        self.assertEqual((host.streams(), host.others()), ([0], [3]))
        self.assert_refused(NoStream, host, host.take, 0, 1)
        self.assert_refused(NoStream, host, host.write, 3, "a")
        host.write(0, "x")
        host.hear(text("data", 1, 1, 0, 0, "abc"))
        self.assertEqual(host.giver(0).text, "x")
        self.assertEqual(host.take(0, 9), "abc")

    def refuse_all(self, refusal, host, stream):
        for signs in ("a", "", "x" * 201):
            self.assert_refused(refusal, host, host.write, stream, signs)
        for count in (1, 0, 201):
            self.assert_refused(refusal, host, host.take, stream, count)
        self.assert_refused(refusal, host, host.finish, stream)
        self.assert_refused(refusal, host, host.giver, stream)
        self.assert_refused(refusal, host, host.taker, stream)

    def test_of_a_number_that_there_is_none_of(self):
        host = Host(10, 5, 3)
        for stream in (0, 1, 50, 999, FAR, -1):
            self.refuse_all(NoStream, host, stream)
        host = met_host()
        host.start()
        host.hear(text("data", 1, 1, 0, 0, "abc"))
        for stream in (1, 49, 50, 999, -1):
            self.refuse_all(NoStream, host, stream)

    def test_of_a_broken_one(self):
        host = met_host()
        host.start()
        host.write(0, "abc")
        host.start()
        host.finish(1)
        host.hear(text("data", 1, 1, 0, 0, "abc"))
        host.hear(text("end", 1, 1, 1, 0))
        host.hear(text("hello", 2, 0))
        self.refuse_all(Broken, host, 0)
        self.refuse_all(Broken, host, 1)
        self.refuse_all(NoStream, host, 2)

    def test_of_one_of_the_life_before(self):
        host = met_host()
        host.start()
        host.start()
        host.hear(text("data", 1, 1, 0, 0, "abc"))
        host.hear(text("hello", 2, 1))
        host.start()
        host.hear(text("data", 2, 1, 2, 0, "abc"))
        host.fall()
        for stream in (0, 1, 2):
            self.refuse_all(NoStream, host, stream)

    def test_what_the_giver_refuses(self):
        host = met_host()
        host.start()
        self.assert_refused(TooMuch, host, host.write, 0, "")
        self.assert_refused(TooMuch, host, host.write, 0, "x" * 201)
        for turn in range(10):
            host.write(0, "x" * 200)
        self.assert_refused(TooMuch, host, host.write, 0, "x")
        host.finish(0)
        self.assert_refused(Ended, host, host.finish, 0)
        self.assert_refused(Ended, host, host.write, 0, "x")
        self.assert_refused(Ended, host, host.write, 0, "")

    def test_what_the_taker_refuses(self):
        host = met_host()
        host.hear(text("data", 1, 1, 0, 0, "abc"))
        for count in (0, 201, -1, FAR):
            self.assert_refused(TooMuch, host, host.take, 0, count)

    def test_the_lists_are_the_askers_own(self):
        host = met_host()
        host.start()
        host.hear(text("hello", 2, 1))
        host.start()
        host.hear(text("data", 2, 1, 7, 0, "abc"))
        told = (host.streams(), host.others(), host.broken())
        self.assertEqual(told, ([1], [7], [0]))
        for one in told:
            one.append(99)
        self.assertEqual((host.streams(), host.others(), host.broken()), ([1], [7], [0]))
        streams = host.streams()
        host.start()
        self.assertEqual(streams, [1])

    def test_the_lists_rise(self):
        host = met_host()
        for stream in (30, 4, 49, 0, 17):
            host.hear(text("data", 1, 1, stream, 0, ""))
        self.assertEqual(host.others(), [0, 4, 17, 30, 49])


class Breaking(HostCase):
    def used_host(self):
        """A host with two givers and two takers in the other one's first life."""
        host = met_host()
        host.start()
        host.start()
        host.write(0, "abcdef")
        host.finish(0)
        host.hear(text("data", 1, 1, 0, 0, "abc"))
        host.hear(text("data", 1, 1, 5, 0, "xyz"))
        return host

    def fresh_pieces(self):
        return (("hello", 2, 0), ("hello", 2, 1), ("data", 2, 1, 30, 0, "a"), ("end", 2, 1, 30, 0),
                ("answer", 2, 1, 30, 0, 9, ()), ("data", 2, 1, 999, 0, "a"), ("hello", LIFE, 1))

    def test_a_fresh_piece_of_whatever_kind(self):
        for piece in self.fresh_pieces():
            host = self.used_host()
            host.hear(text(*piece))
            self.assertEqual(host.streams(), [])
            self.assertEqual(host.broken(), [0, 1])
            self.assertEqual([stream for stream in host.others() if stream != 30], [])
            for stream in (0, 1):
                self.assert_refused(Broken, host, host.giver, stream)
            for stream in (0, 5):
                self.assert_refused(Broken, host, host.taker, stream)

    def test_one_that_is_not_fresh_breaks_nothing(self):
        host = self.used_host()
        for piece in (("hello", 1, 0), ("hello", 1, 1), ("data", 1, 1, 30, 0, "a"), ("answer", 1, 1, 30, 0, 9, ())):
            host.hear(text(*piece))
            self.assertEqual((host.streams(), host.broken()), ([0, 1], []))
        self.assertEqual(host.others(), [0, 5, 30])

    def test_one_of_a_life_that_this_host_never_had_breaks_nothing(self):
        host = self.used_host()
        for piece in (("hello", 2, 2), ("data", 2, 2, 30, 0, "a")):
            self.assert_left_alone(host, text(*piece))

    def test_numbers_go_on(self):
        host = self.used_host()
        host.hear(text("hello", 2, 1))
        self.assertEqual(host.start(), 2)
        self.assertEqual((host.streams(), host.broken()), ([2], [0, 1]))
        host.hear(text("hello", 3, 1))
        self.assertEqual((host.streams(), host.broken()), ([], [0, 1, 2]))
        self.assertEqual(host.start(), 3)

    def test_none_of_their_pieces_is_sent(self):
        host = self.used_host()
        host.hear(text("hello", 2, 1))
        self.assert_tick(host)
        host.start()
        self.assert_tick(host, ("data", 1, 2, 2, 0, ""))

    def test_none_is_taken(self):
        host = self.used_host()
        host.hear(text("hello", 2, 1))
        self.assert_left_alone(host, text("data", 1, 1, 0, 3, "def"))
        self.assert_left_alone(host, text("data", 1, 1, 6, 0, "def"))
        self.assert_left_alone(host, text("end", 1, 1, 5, 3))
        self.assert_left_alone(host, text("answer", 1, 1, 0, 1, 20, ()))
        self.assert_left_alone(host, text("answer", 2, 1, 0, 1, 20, ()))
        self.assertEqual((host.streams(), host.others(), host.broken()), ([], [], [0, 1]))

    def test_a_taker_made_anew(self):
        host = self.used_host()
        self.assertEqual(host.take(0, 1), "a")
        host.hear(text("hello", 2, 1))
        self.assertEqual(host.others(), [])
        self.assert_answers(host, ("data", 2, 1, 0, 1, "V"), ("answer", 1, 2, 0, 0, 10, ((1, 2),)))
        self.assertEqual(host.others(), [0])
        self.assertEqual(host.take(0, 9), "")
        self.assert_answers(host, ("data", 2, 1, 0, 0, "U"), ("answer", 1, 2, 0, 2, 10, ()))
        self.assertEqual(host.take(0, 9), "UV")
        self.assert_refused(Broken, host, host.take, 5, 1)

    def test_a_taker_made_anew_by_an_empty_data_piece_or_an_end(self):
        host = self.used_host()
        host.hear(text("hello", 2, 1))
        self.assert_answers(host, ("data", 2, 1, 0, 0, ""), ("answer", 1, 2, 0, 0, 10, ()))
        self.assert_answers(host, ("end", 2, 1, 5, 0), ("answer", 1, 2, 5, 1, 10, ()))
        self.assertEqual(host.others(), [0, 5])
        self.assertEqual(host.take(0, 9), "")
        self.assertIs(host.taker(5).is_done, True)

    def test_fresh_pieces_break_again_and_again(self):
        host = met_host()
        for life in range(2, 6):
            host.start()
            host.hear(text("data", life - 1, 1, 0, 0, "abc"))
            self.assertEqual(host.others(), [0])
            host.hear(text("hello", life, 0))
            self.assertEqual((host.streams(), host.others(), host.broken()), ([], [], list(range(life - 1))))


class Fall(HostCase):
    def test_all_is_as_at_first_but_the_life(self):
        host = met_host()
        host.start()
        host.write(0, "abc")
        host.tick()
        host.hear(text("data", 1, 1, 3, 0, "abc"))
        host.hear(text("hello", 2, 1))
        host.start()
        self.assertIsNone(host.fall())
        self.assert_as_at_first(host, 2)
        self.assert_tick(host, ("hello", 2, 0))
        host.fall()
        self.assert_as_at_first(host, 3)

    def test_at_life_thirty_nine_and_forty(self):
        host = Host(10, 5, 3)
        for life in range(2, 41):
            host.fall()
            self.assertEqual(host.life, life)
        host.hear(text("hello", 3, 40))
        host.start()
        host.write(0, "abc")
        host.hear(text("data", 3, 40, 3, 0, "abc"))
        self.assert_refused(TooMuch, host, host.fall)
        self.assert_refused(TooMuch, host, host.fall)
        self.assertEqual((host.life, host.streams(), host.others()), (40, [0], [3]))

    def test_numbers_from_nought_on(self):
        host = met_host()
        host.start()
        host.start()
        host.fall()
        host.hear(text("hello", 1, 2))
        self.assertEqual(host.start(), 0)
        self.assertEqual(host.giver(0).text, "")

    def test_the_meeting_is_a_new_one(self):
        host = met_host(yours=5)
        kept = host.meeting
        host.fall()
        self.assertEqual((kept.mine, kept.yours, kept.is_met), (1, 5, True))
        host.hear(text("hello", 3, 0))
        self.assertEqual(host.meeting.yours, 3)

    def test_room_most_and_budget_stay(self):
        host = met_host(room=7, most=4, budget=2)
        host.fall()
        host.hear(text("hello", 1, 2))
        for turn in range(3):
            host.start()
            host.write(turn, "abcdefgh")
            host.hear(text("answer", 1, 2, turn, 0, 7, ()))
        self.assert_tick(host, ("data", 2, 1, 0, 0, "abcd"), ("data", 2, 1, 1, 0, "abcd"))
        self.assert_answers(host, ("data", 1, 2, 0, 0, "abcdefghi"), ("answer", 2, 1, 0, 7, 7, ()))

    def test_turns_begin_anew(self):
        host = met_host(budget=1)
        for turn in range(3):
            host.start()
        host.tick()
        host.tick()
        host.fall()
        host.hear(text("hello", 1, 2))
        for turn in range(3):
            host.start()
        self.assert_tick(host, ("data", 2, 1, 0, 0, ""))


class Tick(HostCase):
    def opened(self, count, budget, most=5):
        """A met host with so many givers, each of which has a text and was answered."""
        host = met_host(most=most, budget=budget)
        for stream in range(count):
            host.start()
            host.write(stream, "abcdefghijkl")
            host.hear(text("answer", 1, 1, stream, 0, 200, ()))
        return host

    def served(self, host):
        return [piece[3] for piece in pieces(host.tick())]

    def test_not_met_and_nothing_known(self):
        host = Host(10, 5, 3)
        for turn in range(3):
            self.assert_tick(host, ("hello", 1, 0))
        self.assert_as_at_first(host, 1)

    def test_the_text_as_it_stands(self):
        self.assertEqual(Host(10, 5, 3).tick(), [written(("hello", 1, 0))])
        self.assertEqual(Host(10, 5, 3).tick(), ["hello 1 0 7987"])

    def test_not_met_but_known(self):
        host = Host(10, 5, 3)
        host.hear(text("hello", 4, 0))
        self.assert_tick(host, ("hello", 1, 0))
        host.start()
        host.write(0, "abc")
        self.assert_tick(host, ("hello", 1, 0), ("data", 1, 4, 0, 0, "a"))
        self.assert_tick(host, ("hello", 1, 0), ("data", 1, 4, 0, 0, "a"))

    def test_met(self):
        host = met_host(yours=4)
        self.assert_tick(host)
        host.start()
        host.write(0, "abc")
        self.assert_tick(host, ("data", 1, 4, 0, 0, "a"))

    def test_the_hello_is_not_counted(self):
        host = Host(10, 5, 1)
        host.hear(text("hello", 4, 0))
        host.start()
        host.start()
        self.assert_tick(host, ("hello", 1, 0), ("data", 1, 4, 0, 0, ""))
        self.assert_tick(host, ("hello", 1, 0), ("data", 1, 4, 1, 0, ""))

    def test_the_hello_goes_again_once_it_is_not_met_any_more(self):
        host = met_host()
        self.assert_tick(host)
        host.hear(text("hello", 2, 0))
        self.assert_tick(host, ("hello", 1, 0))
        host.hear(text("hello", 2, 1))
        self.assert_tick(host)

    def test_each_at_most_once(self):
        host = self.opened(2, budget=20)
        self.assertEqual(self.served(host), [0, 1])
        self.assertEqual(self.served(host), [0, 1])

    def test_budget_one_by_turns(self):
        host = self.opened(3, budget=1)
        self.assertEqual([self.served(host) for turn in range(7)], [[0], [1], [2], [0], [1], [2], [0]])

    def test_budget_two_by_turns(self):
        host = self.opened(3, budget=2)
        self.assertEqual([self.served(host) for turn in range(4)], [[0, 1], [2, 0], [1, 2], [0, 1]])

    def test_budget_twenty_with_more_givers(self):
        host = self.opened(30, budget=20)
        self.assertEqual(self.served(host), list(range(20)))
        self.assertEqual(self.served(host), list(range(20, 30)) + list(range(10)))
        self.assertEqual(self.served(host), list(range(10, 30)))

    def test_budget_just_as_many(self):
        host = self.opened(3, budget=3)
        self.assertEqual([self.served(host) for turn in range(2)], [[0, 1, 2], [0, 1, 2]])

    def test_the_turn_goes_on_from_who_sent_last_not_who_was_passed_over(self):
        host = met_host(budget=3)
        for stream in range(4):
            host.start()
            host.hear(text("answer", 1, 1, stream, 0, 200, ()))
        host.write(0, "abcdefghijkl")
        host.write(1, "abcdefghijkl")
        self.assertEqual(self.served(host), [0, 1])
        host.write(2, "abc")
        host.write(3, "abc")
        self.assertEqual(self.served(host), [2, 3, 0])
        self.assertEqual(self.served(host), [1, 2, 3])

    def test_one_that_has_nothing_to_send_is_passed_over_and_not_counted(self):
        host = met_host(budget=2)
        for stream in range(4):
            host.start()
            host.hear(text("answer", 1, 1, stream, 0, 200, ()))
        self.assert_tick(host)
        host.write(1, "ab")
        host.write(3, "cd")
        self.assert_tick(host, ("data", 1, 1, 1, 0, "ab"), ("data", 1, 1, 3, 0, "cd"))

    def test_done_ones_are_left_out(self):
        host = self.opened(3, budget=1)
        host.finish(1)
        host.hear(text("answer", 1, 1, 1, 13, 200, ()))
        self.assertIs(host.giver(1).is_done, True)
        self.assertEqual(host.streams(), [0, 1, 2])
        self.assertEqual([self.served(host) for turn in range(4)], [[0], [2], [0], [2]])

    def test_the_last_one_is_done_then(self):
        host = self.opened(4, budget=2)
        self.assertEqual(self.served(host), [0, 1])
        host.finish(1)
        host.hear(text("answer", 1, 1, 1, 13, 200, ()))
        self.assertEqual(self.served(host), [2, 3])
        host.finish(3)
        host.hear(text("answer", 1, 1, 3, 13, 200, ()))
        self.assertEqual(self.served(host), [0, 2])

    def test_one_begun_between(self):
        host = self.opened(2, budget=1)
        self.assertEqual([self.served(host) for turn in range(2)], [[0], [1]])
        host.start()
        self.assertEqual([self.served(host) for turn in range(3)], [[2], [0], [1]])

    def test_broken_between(self):
        host = self.opened(3, budget=1)
        self.assertEqual([self.served(host) for turn in range(2)], [[0], [1]])
        host.hear(text("hello", 2, 1))
        self.assertEqual(self.served(host), [])
        for turn in range(3):
            host.start()
        self.assertEqual([self.served(host) for turn in range(4)], [[3], [4], [5], [3]])

    def test_next_parts_ahead_of_those_sent_again(self):
        host = self.opened(1, budget=3)
        self.assert_tick(host, ("data", 1, 1, 0, 0, "abcde"))
        self.assert_tick(host, ("data", 1, 1, 0, 5, "fghij"))
        self.assert_tick(host, ("data", 1, 1, 0, 10, "kl"))
        self.assert_tick(host, ("data", 1, 1, 0, 0, "abcde"))
        self.assert_tick(host, ("data", 1, 1, 0, 0, "abcde"))
        host.hear(text("answer", 1, 1, 0, 5, 200, ((10, 11),)))
        self.assert_tick(host, ("data", 1, 1, 0, 5, "fghij"))
        host.finish(0)
        self.assert_tick(host, ("end", 1, 1, 0, 12))
        self.assert_tick(host, ("data", 1, 1, 0, 5, "fghij"))
        host.hear(text("answer", 1, 1, 0, 12, 200, ()))
        self.assert_tick(host, ("end", 1, 1, 0, 12))
        host.hear(text("answer", 1, 1, 0, 13, 200, ()))
        self.assert_tick(host)

    def test_one_part_only_of_the_next(self):
        host = self.opened(1, budget=20, most=1)
        self.assert_tick(host, ("data", 1, 1, 0, 0, "a"))
        self.assertEqual(host.giver(0).sent, 1)

    def test_the_list_is_the_askers_own(self):
        host = self.opened(1, budget=3)
        host.tick().clear()
        self.assert_tick(host, ("data", 1, 1, 0, 5, "fghij"))


class Hear(HostCase):
    def test_what_is_no_piece(self):
        host = met_host()
        host.start()
        good = text("data", 1, 1, 0, 0, "abc")
        for heard in ("", " ", "hello", "hello 1 1", "hello 1 1 0000", good[:-1], good + " ", " " + good,
                      good.replace("abc", "abd"), good.replace("data", "dato"), "x" * 400):
            self.assert_left_alone(host, heard)
        fresh = text("hello", 9, 1)
        for place in range(len(fresh)):
            sign = "7" if fresh[place] != "7" else "8"
            self.assert_left_alone(host, fresh[:place] + sign + fresh[place + 1:])

    def test_old_pieces(self):
        host = met_host(yours=3)
        host.fall()
        host.hear(text("hello", 3, 2))
        host.start()
        for piece in (("hello", 2, 0), ("hello", 2, 2), ("hello", 1, 1), ("data", 2, 2, 0, 0, "abc"),
                      ("end", 2, 2, 0, 3), ("answer", 2, 2, 0, 0, 100, ()), ("hello", 3, 3), ("hello", 4, 3),
                      ("data", 3, 3, 0, 0, "abc"), ("answer", 4, 3, 0, 0, 100, ())):
            self.assert_left_alone(host, text(*piece))

    def test_a_hello_that_asks(self):
        host = Host(10, 5, 3)
        self.assert_answers(host, ("hello", 4, 0), ("hello", 1, 4))
        self.assertEqual((host.meeting.yours, host.meeting.is_met), (4, False))
        self.assert_answers(host, ("hello", 4, 0), ("hello", 1, 4))
        host.hear(text("hello", 4, 1))
        self.assert_answers(host, ("hello", 4, 0), ("hello", 1, 4))
        self.assertIs(host.meeting.is_met, True)

    def test_a_hello_that_replies(self):
        host = Host(10, 5, 3)
        self.assert_answers(host, ("hello", 4, 1), ("hello", 1, 4))
        self.assertEqual((host.meeting.yours, host.meeting.is_met), (4, True))
        self.assert_answers(host, ("hello", 4, 1))
        self.assert_answers(host, ("hello", 5, 1), ("hello", 1, 5))
        self.assertEqual((host.meeting.yours, host.meeting.is_met), (5, True))

    def test_what_comes_for_an_earlier_life(self):
        host = met_host(yours=3)
        host.fall()
        for piece in (("hello", 3, 1), ("data", 3, 1, 0, 0, "abc"), ("end", 3, 1, 0, 3),
                      ("answer", 3, 1, 0, 0, 100, ())):
            self.assert_answers(host, piece, ("hello", 2, 3))
            self.assertEqual((host.meeting.yours, host.meeting.is_met), (3, False))
            self.assertEqual(host.others(), [])
        host.hear(text("hello", 3, 2))
        host.start()
        for piece in (("hello", 3, 1), ("data", 3, 1, 0, 0, "abc"), ("end", 3, 1, 0, 3),
                      ("answer", 3, 1, 0, 0, 100, ())):
            kept = state(host)
            self.assert_answers(host, piece, ("hello", 2, 3))
            self.assertEqual(state(host), kept)

    def test_a_fresh_one_that_is_not_known(self):
        host = met_host()
        host.fall()
        host.hear(text("hello", 1, 2))
        host.start()
        host.hear(text("data", 1, 2, 6, 0, "abc"))
        self.assert_answers(host, ("data", 2, 1, 0, 0, "abc"), ("hello", 2, 2))
        self.assertEqual((host.meeting.yours, host.meeting.is_met), (2, False))
        self.assertEqual((host.streams(), host.others(), host.broken()), ([], [], [0]))

    def test_a_fresh_one_that_is_known(self):
        host = Host(10, 5, 3)
        self.assert_answers(host, ("data", 4, 1, 7, 0, "abc"), ("hello", 1, 4), ("answer", 1, 4, 7, 3, 10, ()))
        self.assertEqual((host.meeting.yours, host.meeting.is_met, host.others()), (4, True, [7]))
        self.assert_answers(host, ("end", 5, 1, 7, 2), ("hello", 1, 5), ("answer", 1, 5, 7, 0, 10, ()))
        self.assertEqual(host.others(), [7])
        self.assertEqual(host.taker(7).text, "")
        self.assert_answers(host, ("answer", 6, 1, 7, 0, 9, ()), ("hello", 1, 6))
        self.assertEqual((host.meeting.yours, host.meeting.is_met, host.others()), (6, True, []))

    def test_data(self):
        host = met_host()
        self.assert_answers(host, ("data", 1, 1, 7, 2, "cd"), ("answer", 1, 1, 7, 0, 10, ((2, 4),)))
        self.assertEqual(host.others(), [7])
        self.assert_answers(host, ("data", 1, 1, 7, 0, "ab"), ("answer", 1, 1, 7, 4, 10, ()))
        self.assert_answers(host, ("data", 1, 1, 7, 0, "ab"), ("answer", 1, 1, 7, 4, 10, ()))
        self.assertEqual(host.take(7, 3), "abc")
        self.assert_answers(host, ("data", 1, 1, 7, 4, "efghijklmnop"), ("answer", 1, 1, 7, 13, 13, ()))
        self.assertEqual(host.take(7, 200), "defghijklm")

    def test_empty_data(self):
        host = met_host()
        self.assert_answers(host, ("data", 1, 1, 7, 0, ""), ("answer", 1, 1, 7, 0, 10, ()))
        self.assertEqual(host.others(), [7])
        self.assert_answers(host, ("data", 1, 1, 8, PLACE, ""), ("answer", 1, 1, 8, 0, 10, ()))
        self.assertEqual(host.others(), [7, 8])

    def test_ends(self):
        host = met_host()
        self.assert_answers(host, ("end", 1, 1, 7, 3), ("answer", 1, 1, 7, 0, 10, ()))
        self.assertEqual(host.others(), [7])
        self.assert_answers(host, ("data", 1, 1, 7, 0, "abcd"), ("answer", 1, 1, 7, 4, 10, ()))
        self.assertEqual(host.take(7, 9), "abc")
        self.assertIs(host.taker(7).is_done, True)
        self.assert_answers(host, ("end", 1, 1, 7, 3), ("answer", 1, 1, 7, 4, 13, ()))
        self.assert_answers(host, ("end", 1, 1, 8, 0), ("answer", 1, 1, 8, 1, 10, ()))
        self.assert_answers(host, ("end", 1, 1, 9, PLACE), ("answer", 1, 1, 9, 0, 10, ()))
        self.assertEqual(host.others(), [7, 8, 9])

    def test_numbers_of_streams(self):
        for signs in ("abc", ""):
            host = met_host()
            self.assert_answers(host, ("data", 1, 1, 49, 0, signs), ("answer", 1, 1, 49, len(signs), 10, ()))
            for stream in (50, 51, 999):
                self.assert_left_alone(host, text("data", 1, 1, stream, 0, signs))
                self.assert_left_alone(host, text("end", 1, 1, stream, 0))
                self.assert_left_alone(host, text("answer", 1, 1, stream, 0, 9, ()))
            self.assertEqual(host.others(), [49])
        host = met_host()
        self.assert_answers(host, ("end", 1, 1, 49, 0), ("answer", 1, 1, 49, 1, 10, ()))

    def test_a_fresh_one_of_a_number_that_is_left_alone(self):
        for piece in (("data", 5, 1, 50, 0, "abc"), ("end", 5, 1, 999, 0)):
            host = met_host()
            host.start()
            self.assert_answers(host, piece, ("hello", 1, 5))
            self.assertEqual((host.others(), host.broken(), host.meeting.is_met), ([], [0], True))

    def test_each_stream_by_itself(self):
        host = met_host()
        host.hear(text("data", 1, 1, 0, 0, "abc"))
        host.hear(text("data", 1, 1, 1, 0, "xyz"))
        host.hear(text("end", 1, 1, 1, 3))
        self.assertEqual(host.take(0, 9), "abc")
        self.assertEqual(host.take(1, 9), "xyz")
        self.assertIs(host.taker(0).is_done, False)
        self.assertIs(host.taker(1).is_done, True)

    def test_answers(self):
        host = met_host()
        host.start()
        host.start()
        host.write(1, "abcdef")
        self.assert_answers(host, ("answer", 1, 1, 1, 2, 40, ((4, 5),)))
        giver = host.giver(1)
        self.assertEqual((giver.come, giver.limit, giver.spans, giver.is_heard), (2, 40, ((4, 5),), True))
        self.assertEqual((host.giver(0).is_heard, host.others()), (False, []))

    def test_answers_that_are_none_of_the_stream(self):
        host = met_host()
        host.start()
        host.write(0, "abc")
        for come, limit in ((4, 9), (3, 1), (PLACE, PLACE)):
            self.assert_left_alone(host, text("answer", 1, 1, 0, come, limit, ()))

    def test_answers_to_givers_that_are_not_there_or_broken(self):
        host = met_host()
        for stream in (0, 1, 49, 50, 999):
            self.assert_left_alone(host, text("answer", 1, 1, stream, 0, 9, ()))
        host.start()
        self.assert_left_alone(host, text("answer", 1, 1, 1, 0, 9, ()))
        host.hear(text("hello", 2, 1))
        self.assert_left_alone(host, text("answer", 2, 1, 0, 0, 9, ()))

    def test_a_fresh_answer_does_not_come_to_what_it_broke(self):
        host = met_host()
        host.start()
        self.assert_answers(host, ("answer", 2, 1, 0, 0, 9, ()), ("hello", 1, 2))
        self.assertEqual((host.streams(), host.broken()), ([], [0]))

    def test_the_list_is_the_askers_own(self):
        host = met_host()
        told = host.hear(text("data", 1, 1, 7, 0, "abc"))
        told.clear()
        self.assert_answers(host, ("data", 1, 1, 7, 3, "d"), ("answer", 1, 1, 7, 4, 10, ()))


if __name__ == "__main__":
    unittest.main()
