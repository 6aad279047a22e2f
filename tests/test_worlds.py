"""Points [70] to [72]: a world, its deeds, its log, and how it settles."""

import random
import unittest

from ferry.errors import Broken, Ended, FerryError, NoDeed, NoPiece, NoStream, NotMet, TooMuch
from ferry.hosts import Host
from ferry.pieces import read, written
from ferry.roads import Road
from ferry.settling import is_settled
from ferry.worlds import World

FAR = 10 ** 12
SIGNS = "".join([chr(code) for code in range(32, 127) if code != 37])
HELLO = written(("hello", 1, 0))


def side_state(host):
    givers = [host.giver(stream) for stream in host.streams()]
    takers = [host.taker(stream) for stream in host.others()]
    return ([(one.text, one.sent, one.come, one.limit, one.spans, one.is_ended, one.is_heard) for one in givers],
            [(one.text, one.read, one.limit, one.is_done, one.answer()) for one in takers])


def host_state(host):
    return (host.life, host.meeting.mine, host.meeting.yours, host.meeting.is_met,
            host.streams(), host.others(), host.broken(), side_state(host))


def state(hosts, road):
    return ([host_state(host) for host in hosts], road.flying(), road.log())


def met_world(room=10, most=5, budget=3):
    world = World(room, most, budget)
    world.settle(1)
    return world


def world_with(*deeds):
    """A world whose hosts have met and that has done these deeds."""
    world = met_world()
    for deed in deeds:
        world.do(deed)
    return world


def deeds_of(log):
    return [pair[0] for pair in log]


class WorldCase(unittest.TestCase):
    def assert_refused(self, refusal, world, deed):
        kept = (state(world.hosts, world.road), world.log())
        with self.subTest(deed=deed):
            with self.assertRaises(refusal):
                world.do(deed)
            self.assertEqual((state(world.hosts, world.road), world.log()), kept)

    def assert_done(self, world, deed, expected):
        log = world.log()
        answer = world.do(deed)
        self.assertIs(type(answer), type(expected))
        self.assertEqual(answer, expected)
        self.assertEqual(world.log(), log + [(deed, expected)])


class Making(WorldCase):
    def test_its_values(self):
        world = World(10, 5, 3)
        self.assertIsInstance(world.hosts, list)
        self.assertEqual(len(world.hosts), 2)
        for host in world.hosts:
            self.assertIsInstance(host, Host)
            self.assertEqual(host_state(host), host_state(Host(10, 5, 3)))
        self.assertIsInstance(world.road, Road)
        self.assertEqual((world.road.flying(), world.road.log(), world.log()), ([], [], []))

    def test_room_most_and_budget_are_those_of_both_hosts(self):
        world = met_world(7, 4, 2)
        for host in range(2):
            for stream in range(3):
                world.do(("open", host))
                world.do(("write", host, stream, "abcdefghijklm"))
            self.assertEqual(len(world.do(("tick", host))), 2)
            self.assertEqual(len(world.do(("tick", host))), 2)
        while world.road.flying():
            world.do(("carry", 0))
        for host in range(2):
            self.assertEqual(world.hosts[host].taker(0).limit, 7)
            world.do(("tick", host))
            text = world.road.text_of(world.road.flying()[-1][0])
            self.assertEqual(read(text)[5], "bcde")

    def test_two_have_nothing_to_do_with_one_another(self):
        one = met_world()
        one.do(("open", 0))
        other = World(10, 5, 3)
        self.assertEqual((other.log(), other.road.log(), other.hosts[0].streams()), ([], [], []))


class HostDeeds(WorldCase):
    def test_opened(self):
        world = met_world()
        self.assert_done(world, ("open", 0), 0)
        self.assert_done(world, ("open", 0), 1)
        self.assert_done(world, ("open", 1), 0)
        self.assertEqual([host.streams() for host in world.hosts], [[0, 1], [0]])

    def test_opened_refused(self):
        self.assert_refused(NotMet, World(10, 5, 3), ("open", 1))
        world = world_with(*[("open", 1)] * 50)
        self.assert_refused(TooMuch, world, ("open", 1))
        self.assert_done(world, ("open", 0), 0)

    def test_written_and_finished(self):
        world = world_with(("open", 0), ("open", 1), ("open", 1))
        self.assert_done(world, ("write", 1, 1, "a b"), None)
        self.assert_done(world, ("write", 1, 1, "c"), None)
        self.assert_done(world, ("finish", 1, 1), None)
        self.assertEqual((world.hosts[1].giver(1).text, world.hosts[1].giver(1).is_ended), ("a bc", True))
        self.assertEqual((world.hosts[1].giver(0).text, world.hosts[0].giver(0).text), ("", ""))
        self.assertIs(world.hosts[1].giver(0).is_ended, False)

    def test_written_and_finished_refused(self):
        world = world_with(("open", 0))
        for deed in (("write", 0, 1, "a"), ("write", 1, 0, "a"), ("finish", 1, 0), ("finish", 0, FAR)):
            self.assert_refused(NoStream, world, deed)
        self.assert_refused(TooMuch, world, ("write", 0, 0, ""))
        self.assert_refused(TooMuch, world, ("write", 0, 0, "a" * 201))
        world.do(("finish", 0, 0))
        self.assert_refused(Ended, world, ("write", 0, 0, "a"))
        self.assert_refused(Ended, world, ("finish", 0, 0))

    def test_broken_refused(self):
        world = world_with(("open", 0), ("write", 0, 0, "abc"), ("tick", 0), ("carry", 0), ("open", 1),
                           ("tick", 1), ("carry", 1), ("fall", 1), ("tick", 1))
        self.assertEqual(world.hosts[0].others(), [0])
        while world.road.flying():
            world.do(("carry", 0))
        self.assertEqual(world.hosts[0].broken(), [0])
        for deed in (("write", 0, 0, "a"), ("finish", 0, 0), ("take", 0, 0, 5)):
            self.assert_refused(Broken, world, deed)

    def test_taken(self):
        world = world_with(("open", 0), ("write", 0, 0, "a"), ("tick", 0), ("carry", 0))
        self.assert_refused(TooMuch, world, ("take", 1, 0, 0))
        self.assert_refused(TooMuch, world, ("take", 1, 0, 201))
        self.assert_done(world, ("take", 1, 0, 200), "a")
        self.assert_done(world, ("take", 1, 0, 1), "")
        self.assert_refused(NoStream, world, ("take", 1, 1, 5))
        self.assert_refused(NoStream, world, ("take", 0, 0, 5))
        # NoStream comes first.
        self.assert_refused(NoStream, world, ("take", 0, 0, 0))

    def test_fallen(self):
        world = world_with(("open", 0))
        self.assert_done(world, ("fall", 0), None)
        self.assertEqual([host.life for host in world.hosts], [2, 1])
        self.assertEqual(world.hosts[0].streams(), [])
        for life in range(3, 41):
            world.do(("fall", 0))
        self.assert_refused(TooMuch, world, ("fall", 0))
        self.assert_done(world, ("fall", 1), None)


class Ticks(WorldCase):
    def test_what_a_host_ticks_goes_to_the_other(self):
        world = World(10, 5, 3)
        self.assert_done(world, ("tick", 0), [0])
        self.assert_done(world, ("tick", 1), [1])
        self.assertEqual(world.road.flying(), [(0, 1), (1, 0)])
        self.assertEqual([world.road.text_of(number) for number in (0, 1)], [HELLO, HELLO])

    def test_nothing(self):
        world = met_world()
        self.assert_done(world, ("tick", 0), [])

    def test_several_in_order(self):
        world = met_world()
        first = len([entry for entry in world.road.log() if entry[0] == "send"])
        for stream in range(3):
            world.do(("open", 1))
            world.do(("write", 1, stream, "xyz"[stream]))
        self.assert_done(world, ("tick", 1), [first, first + 1, first + 2])
        self.assertEqual(world.road.flying(), [(first, 0), (first + 1, 0), (first + 2, 0)])
        pieces = [read(world.road.text_of(first + stream)) for stream in range(3)]
        self.assertEqual(pieces, [("data", 1, 1, stream, 0, "xyz"[stream]) for stream in range(3)])

    def test_a_full_road(self):
        world = World(10, 5, 3)
        for tick in range(199):
            world.do(("tick", tick % 2))
        self.assertEqual(len(world.road.flying()), 199)
        self.assert_done(world, ("tick", 0), [199])
        self.assertEqual(len(world.road.flying()), 200)
        self.assert_done(world, ("tick", 0), [200])
        self.assertEqual(len(world.road.flying()), 200)
        self.assertEqual(world.road.log()[-1], ("full", 200, 1, HELLO))
        self.assert_done(world, ("double", 0), 201)
        self.assertEqual(world.road.log()[-1], ("full", 201, 1, HELLO))


class Carries(WorldCase):
    def test_what_is_carried_is_heard_and_its_answers_are_sent(self):
        world = World(10, 5, 3)
        world.do(("tick", 0))
        world.do(("tick", 0))
        self.assert_done(world, ("carry", 0), [2])
        self.assertEqual(world.road.flying(), [(1, 1), (2, 0)])
        self.assertEqual(read(world.road.text_of(2)), ("hello", 1, 1))
        self.assertEqual([host.meeting.yours for host in world.hosts], [0, 1])
        self.assert_done(world, ("carry", 1), [3])
        self.assertEqual(world.road.flying(), [(1, 1), (3, 1)])
        self.assert_done(world, ("carry", 1), [])
        self.assertEqual([host.meeting.is_met for host in world.hosts], [True, True])

    def test_what_is_no_piece(self):
        world = met_world()
        world.road.send(0, "no piece")
        self.assert_done(world, ("carry", 0), [])
        world.do(("fall", 0))
        world.do(("tick", 0))
        world.do(("spoil", 0, 0, "H"))
        self.assert_done(world, ("carry", 0), [])

    def two_answers(self):
        """A world in which the piece at place 0 is fresh and known, with a reply and an answer."""
        world = World(10, 5, 3)
        world.do(("tick", 0))
        world.do(("carry", 0))
        world.do(("lose", 0))
        world.do(("open", 1))
        world.do(("write", 1, 0, "a"))
        world.do(("tick", 1))
        world.do(("lose", 0))
        self.assertEqual(read(world.road.text_of(world.road.flying()[0][0])), ("data", 1, 1, 0, 0, "a"))
        return world

    def test_two_answers_in_order(self):
        world = self.two_answers()
        self.assert_done(world, ("carry", 0), [4, 5])
        self.assertEqual(world.road.flying(), [(4, 1), (5, 1)])
        self.assertEqual(read(world.road.text_of(4)), ("hello", 1, 1))
        self.assertEqual(read(world.road.text_of(5)), ("answer", 1, 1, 0, 1, 10, ()))

    def test_two_answers_with_199_and_200_in_flight(self):
        for count in (198, 199, 200):
            world = self.two_answers()
            while len(world.road.flying()) < count:
                world.do(("tick", 0))
            new = count + 3
            self.assert_done(world, ("carry", 0), [new, new + 1])
            is_lost = count == 200
            self.assertEqual(len(world.road.flying()), 200 if is_lost else count + 1)
            answer = written(("answer", 1, 1, 0, 1, 10, ()))
            self.assertEqual(world.road.log()[-1], ("full" if is_lost else "send", new + 1, 1, answer))

    def test_refused(self):
        world = World(10, 5, 3)
        for place in (0, 1, FAR):
            self.assert_refused(NoPiece, world, ("carry", place))
        world.do(("tick", 0))
        self.assert_refused(NoPiece, world, ("carry", 1))


class RoadDeeds(WorldCase):
    def test_each(self):
        world = World(10, 5, 3)
        for tick in range(3):
            world.do(("tick", tick % 2))
        self.assert_done(world, ("double", 1), 3)
        self.assertEqual(world.road.flying(), [(0, 1), (1, 0), (2, 1), (3, 0)])
        self.assert_done(world, ("turn", 0, 3), None)
        self.assertEqual(world.road.flying(), [(3, 0), (1, 0), (2, 1), (0, 1)])
        self.assert_done(world, ("lose", 1), None)
        self.assertEqual(world.road.flying(), [(3, 0), (2, 1), (0, 1)])
        self.assert_done(world, ("spoil", 2, 6, "7"), None)
        self.assertEqual(world.road.text_of(0), "hello 7 0" + HELLO[9:])
        self.assertEqual((world.road.text_of(2), world.road.text_of(3)), (HELLO, HELLO))
        self.assert_done(world, ("turn", 1, 1), None)

    def test_refused(self):
        world = World(10, 5, 3)
        for deed in (("lose", 0), ("double", 0), ("turn", 0, 0), ("spoil", 0, 0, "x")):
            self.assert_refused(NoPiece, world, deed)
        world.do(("tick", 0))
        for deed in (("lose", 1), ("double", 1), ("turn", 0, 1), ("turn", 1, 0), ("spoil", 1, 0, "x")):
            self.assert_refused(NoPiece, world, deed)
        for deed in (("spoil", 0, 0, "h"), ("spoil", 0, len(HELLO), "x"), ("spoil", 0, 0, "%"), ("spoil", 0, 0, "\t")):
            self.assert_refused(NoDeed, world, deed)
        world.do(("spoil", 0, 0, "x"))
        self.assert_refused(NoDeed, world, ("spoil", 0, 1, "x"))


class NoDeeds(WorldCase):
    def test_ahead_of_what_is_refused_beneath(self):
        world = World(10, 5, 3)
        # Nothing is met, opened or in flight: all of these would be refused beneath otherwise.
        for deed in (("open", 2), ("open", True), ("open", -1), ("open",), ("open", 0, 0), ["open", 0],
                     ("write", 0, 0, "%"), ("write", 0, 0, "\t"), ("write", 0, 0, None), ("write", 2, 0, "a"),
                     ("write", 0, -1, "a"), ("write", 0, 0), ("finish", 0), ("finish", 0, FAR + 1), ("finish", 0, True),
                     ("take", 0, 0), ("take", 0, 0, -1), ("take", 0, 0, None), ("carry", -1), ("carry", True),
                     ("carry",), ("lose", None), ("lose", FAR + 1), ("double", "0"), ("double", 0, 0), ("turn", 0),
                     ("turn", 0, -1), ("turn", False, 0), ("spoil", 0, 0, ""), ("spoil", 0, 0, "xy"),
                     ("spoil", 0, -1, "x"), ("spoil", 0, 0), ("spoil", 0, 0, 7)):
            self.assert_refused(NoDeed, world, deed)

    def test_whatever_it_is(self):
        world = met_world()
        for thing in (None, True, 0, "", "tick", "tick 0", (), (None,), (0,), ("tick",), ("tick", 2), ("tick", "0"),
                      ("fall", 2), ("fall", None), ["tick", 0], {}, ("settle", 1), ("world", 1, 1, 1), ("flying",),
                      (("tick", 0),), object()):
            self.assert_refused(NoDeed, world, thing)


class Log(WorldCase):
    def test_pairs_of_deeds_and_answers(self):
        world = World(10, 5, 3)
        self.assertEqual(world.log(), [])
        with self.assertRaises(NotMet):
            world.do(("open", 0))
        world.do(("tick", 0))
        world.do(("carry", 0))
        with self.assertRaises(NoPiece):
            world.do(("carry", 3))
        world.do(("carry", 0))
        world.do(("open", 0))
        world.do(("write", 0, 0, "a b"))
        with self.assertRaises(NoDeed):
            world.do(("open", 2))
        world.do(("fall", 1))
        self.assertEqual(world.log(), [
            (("tick", 0), [0]),
            (("carry", 0), [1]),
            (("carry", 0), [2]),
            (("open", 0), 0),
            (("write", 0, 0, "a b"), None),
            (("fall", 1), None),
        ])
        for pair in world.log():
            self.assertIs(type(pair), tuple)

    def test_changed_by_the_asker(self):
        world = World(10, 5, 3)
        for told in (world.do(("tick", 0)), world.do(("tick", 1)), world.do(("carry", 0))):
            told.append(99)
            told.reverse()
        expected = [(("tick", 0), [0]), (("tick", 1), [1]), (("carry", 0), [2])]
        self.assertEqual(world.log(), expected)
        for pair in world.log():
            pair[1].clear()
        self.assertEqual(world.log(), expected)
        world.log().clear()
        self.assertEqual(world.log(), expected)
        self.assertEqual(world.road.flying(), [(1, 0), (2, 0)])

    def test_not_changed_by_what_is_done_later(self):
        world = World(10, 5, 3)
        ticked = world.do(("tick", 0))
        log = world.log()
        world.do(("tick", 0))
        world.settle(9)
        self.assertEqual((ticked, log), ([0], [(("tick", 0), [0])]))

    def test_the_list_of_hosts_changed_by_the_asker(self):
        world = met_world()
        here = world.hosts[0]
        world.hosts.reverse()
        world.do(("open", 0))
        self.assertEqual(here.streams(), [0])
        world.hosts.clear()
        self.assertEqual(world.settle(9), 1)
        self.assertEqual(world.do(("tick", 1)), [])


class Settle(WorldCase):
    def test_no_rounds(self):
        for world in (World(10, 5, 3), met_world(), world_with(("open", 0), ("write", 0, 0, "abc"))):
            log = world.log()
            kept = state(world.hosts, world.road)
            told = world.settle(0)
            self.assertIs(type(told), int)
            self.assertEqual(told, 0)
            self.assertEqual((world.log(), state(world.hosts, world.road)), (log, kept))

    def test_a_new_world(self):
        for rounds in (1, 2, 50, FAR):
            world = World(10, 5, 3)
            self.assertEqual(world.settle(rounds), 1)
            self.assertEqual(world.log(), [
                (("tick", 0), [0]),
                (("tick", 1), [1]),
                (("carry", 0), [2]),
                (("carry", 0), [3]),
                (("carry", 0), []),
                (("carry", 0), []),
            ])
            self.assertEqual([host.meeting.is_met for host in world.hosts], [True, True])

    def test_nothing_left_to_be_done(self):
        world = met_world()
        log = world.log()
        for rounds in (0, 1, 50, FAR):
            self.assertEqual(world.settle(rounds), 0)
        self.assertEqual(world.log(), log)

    def test_a_stream_begun(self):
        world = world_with(("open", 1))
        count = len(world.log())
        self.assertEqual(world.settle(9), 1)
        numbers = [pair[1] for pair in world.log()[count:]]
        self.assertEqual(deeds_of(world.log()[count:]), [
            ("tick", 0), ("tick", 1), ("carry", 0), ("carry", 0), ("take", 0, 0, 200)])
        self.assertEqual(numbers, [[], [4], [5], [], ""])
        self.assertIs(world.hosts[1].giver(0).is_heard, True)

    def test_a_stream_written_to_and_finished(self):
        world = world_with(("open", 0), ("write", 0, 0, "abc"), ("finish", 0, 0))
        count = len(world.log())
        self.assertEqual(world.settle(9), 3)
        ticks = [("tick", 0), ("tick", 1), ("carry", 0), ("carry", 0)]
        take = ("take", 1, 0, 200)
        self.assertEqual(deeds_of(world.log()[count:]), ticks + [take, take] + ticks + [take, take] + ticks + [take])
        takes = [pair[1] for pair in world.log()[count:] if pair[0] == take]
        self.assertEqual(takes, ["a", "", "bc", "", ""])
        self.assertIs(world.hosts[0].giver(0).is_done, True)
        self.assertIs(world.hosts[1].taker(0).is_done, True)
        self.assertEqual(world.settle(9), 0)

    def test_fewer_rounds_than_needed(self):
        deeds = (("open", 0), ("write", 0, 0, "abc"), ("finish", 0, 0))
        whole = world_with(*deeds)
        self.assertEqual(whole.settle(3), 3)
        self.assertIs(is_settled(whole.hosts, whole.road), True)
        for rounds in (1, 2):
            world = world_with(*deeds)
            self.assertEqual(world.settle(rounds), rounds)
            self.assertIs(is_settled(world.hosts, world.road), False)
            self.assertEqual(world.log(), whole.log()[:len(world.log())])
            self.assertEqual(world.settle(9), 3 - rounds)
            self.assertEqual(world.log(), whole.log())
            self.assertEqual(state(world.hosts, world.road), state(whole.hosts, whole.road))

    def test_done_takers_are_taken_from_too(self):
        world = world_with(("open", 0), ("finish", 0, 0))
        world.settle(9)
        self.assertIs(world.hosts[1].taker(0).is_done, True)
        world.do(("open", 0))
        count = len(world.log())
        self.assertEqual(world.settle(9), 1)
        takes = [pair for pair in world.log()[count:] if pair[0][0] == "take"]
        self.assertEqual(takes, [(("take", 1, 0, 200), ""), (("take", 1, 1, 200), "")])

    def test_takes_by_hosts_and_numbers(self):
        world = met_world()
        for host in (1, 0):
            for stream in range(3):
                world.do(("open", host))
                world.do(("write", host, stream, "abc"[stream]))
        # The greatest number comes to its host first.
        world.do(("tick", 0))
        world.do(("tick", 1))
        world.do(("turn", 0, 2))
        world.do(("turn", 3, 5))
        count = len(world.log())
        world.settle(1)
        takes = [pair for pair in world.log()[count:] if pair[0][0] == "take"]
        expected = []
        for host in (0, 1):
            for stream in range(3):
                expected.append((("take", host, stream, 200), "abc"[stream]))
                expected.append((("take", host, stream, 200), ""))
        self.assertEqual(takes, expected)

    def test_what_is_in_flight_is_carried_first_behind_the_ticks(self):
        world = World(10, 5, 3)
        for tick in range(4):
            world.do(("tick", 1))
        count = len(world.log())
        world.settle(1)
        deeds = deeds_of(world.log()[count:])
        self.assertEqual(deeds[:2], [("tick", 0), ("tick", 1)])
        self.assertEqual(set(deeds[2:]), {("carry", 0)})
        carried = [entry[1] for entry in world.road.log() if entry[0] == "carry"]
        self.assertEqual(carried, sorted(carried))
        self.assertEqual(carried, list(range(len(carried))))
        self.assertEqual(world.road.flying(), [])

    def test_broken_streams_are_left_alone(self):
        world = world_with(("open", 0), ("write", 0, 0, "abc"), ("open", 1), ("write", 1, 0, "xyz"))
        world.settle(1)
        world.do(("fall", 1))
        count = len(world.log())
        self.assertEqual(world.settle(9), 1)
        self.assertEqual([pair for pair in world.log()[count:] if pair[0][0] == "take"], [])
        self.assertEqual((world.hosts[0].broken(), world.hosts[0].others()), ([0], []))
        self.assertEqual([host.meeting.is_met for host in world.hosts], [True, True])
        self.assertEqual(world.settle(9), 0)

    def test_only_taking_is_left(self):
        world = world_with(("open", 0), ("write", 0, 0, "a"), ("tick", 0), ("carry", 0), ("carry", 0))
        self.assertEqual(world.road.flying(), [])
        count = len(world.log())
        self.assertEqual(world.settle(9), 1)
        self.assertEqual(world.log()[count:], [
            (("tick", 0), []), (("tick", 1), []), (("take", 1, 0, 200), "a"), (("take", 1, 0, 200), "")])

    def test_only_the_road_is_left(self):
        world = met_world()
        world.road.send(1, "no piece")
        count = len(world.log())
        self.assertEqual(world.settle(9), 1)
        self.assertEqual(world.log()[count:], [(("tick", 0), []), (("tick", 1), []), (("carry", 0), [])])

    def test_many_rounds(self):
        # One sign goes through a room of one in two rounds: it is sent, and asked for once it was taken.
        world = met_world(1, 40, 20)
        world.do(("open", 0))
        world.do(("write", 0, 0, "ferryman" * 5))
        needed = world.settle(1000)
        self.assertEqual(needed, 79)
        self.assertEqual(len([deed for deed in deeds_of(world.log()) if deed == ("tick", 0)]), 80)
        taken = [pair[1] for pair in world.log() if pair[0][0] == "take"]
        self.assertEqual("".join(taken), "ferryman" * 5)

    def test_at_most_a_thousand_are_carried_in_a_round(self):
        world = met_world()
        # A host that answers all that it hears, so that the road is never empty.
        for host in world.hosts:
            host.hear = lambda text: ["again"]
        world.road.send(1, "first")
        count = len(world.log())
        self.assertEqual(world.settle(2), 2)
        deeds = deeds_of(world.log()[count:])
        a_round = [("tick", 0), ("tick", 1)] + [("carry", 0)] * 1000
        self.assertEqual(deeds, a_round + a_round)
        self.assertEqual(len(world.road.flying()), 1)

    def test_a_thousand_are_carried_in_a_round(self):
        for count, left in ((1000, 0), (1001, 1)):
            world = met_world()
            answers = ["again"] * (count - 1)
            for host in world.hosts:
                host.hear = lambda text: [answers.pop()] if answers else []
            world.road.send(1, "first")
            world.settle(1)
            self.assertEqual(len(world.road.flying()), left)


class Mirror(WorldCase):
    """Drawn deeds, done in a world and by hand with hosts and a road."""

    def by_hand(self, hosts, road, deed):
        kind = deed[0]
        if kind == "carry":
            host, text = road.carry(deed[1])
            return [road.send(1 - host, answer) for answer in hosts[host].hear(text)]
        if kind == "tick":
            return [road.send(1 - deed[1], text) for text in hosts[deed[1]].tick()]
        if kind in ("lose", "double", "turn", "spoil"):
            return getattr(road, kind)(*deed[1:])
        return getattr(hosts[deed[1]], "start" if kind == "open" else kind)(*deed[2:])

    def draw(self, chance, flying):
        host = chance.randint(0, 1)
        stream = chance.randint(0, 3)
        place = chance.randint(0, flying)
        kind = chance.choice(("open", "write", "write", "finish", "take", "take", "tick", "tick", "tick", "fall", "carry",
                              "carry", "carry", "carry", "carry", "lose", "double", "turn", "spoil"))
        if kind == "fall" and chance.randint(0, 4) > 0:
            kind = "carry"
        if kind in ("open", "fall", "tick"):
            return (kind, host)
        if kind == "write":
            return (kind, host, stream, "".join([chance.choice(SIGNS) for turn in range(chance.randint(0, 9))]))
        if kind == "finish":
            return (kind, host, stream if chance.randint(0, 5) == 0 else 9)
        if kind == "take":
            return (kind, host, stream, chance.randint(0, 9))
        if kind == "turn":
            return (kind, place, chance.randint(0, flying))
        if kind == "spoil":
            return (kind, place, chance.randint(0, 20), chance.choice(SIGNS))
        return (kind, place)

    def refusal_of(self, do, *arguments):
        try:
            return (None, do(*arguments))
        except FerryError as refusal:
            return (type(refusal), None)

    def test_drawn_deeds(self):
        chance = random.Random(70)
        refusals = set()
        kinds = set()
        for turn in range(30):
            sizes = (chance.choice((1, 5, 200)), chance.choice((1, 5, 40)), chance.choice((1, 3, 20)))
            world = World(*sizes)
            hosts = [Host(*sizes), Host(*sizes)]
            road = Road()
            log = []
            for step in range(200):
                deed = self.draw(chance, len(road.flying()))
                expected = self.refusal_of(self.by_hand, hosts, road, deed)
                self.assertEqual(self.refusal_of(world.do, deed), expected)
                if expected[0] is None:
                    log.append((deed, expected[1]))
                    kinds.add(deed[0])
                refusals.add(expected[0])
            self.assertEqual(state(world.hosts, world.road), state(hosts, road))
            self.assertEqual(world.log(), log)
        self.assertEqual(len(kinds), 11)
        self.assertEqual(refusals, {None, NotMet, NoStream, Broken, Ended, TooMuch, NoPiece, NoDeed})


if __name__ == "__main__":
    unittest.main()
