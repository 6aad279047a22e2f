"""Point [72]: is_settled, just where nothing is left to be done; each of its conditions broken alone."""

import unittest

from ferry.hosts import Host
from ferry.pieces import written
from ferry.roads import Road
from ferry.settling import is_settled


def met_hosts():
    hosts = [Host(10, 5, 3), Host(10, 5, 3)]
    for host in hosts:
        host.hear(written(("hello", 1, 1)))
    return hosts


def hear(host, *piece):
    host.hear(written(piece))


class Settled(unittest.TestCase):
    def assert_settled(self, hosts, road, expected):
        # Whichever of the two hosts it is, and asked twice, as asking changes nothing.
        for turn in range(2):
            self.assertIs(is_settled(hosts, road), expected)
            self.assertIs(is_settled([hosts[1], hosts[0]], road), expected)

    def test_met_hosts_and_an_empty_road(self):
        self.assert_settled(met_hosts(), Road(), True)

    def test_new_hosts(self):
        self.assert_settled([Host(10, 5, 3), Host(10, 5, 3)], Road(), False)

    def test_the_road_is_not_empty(self):
        for host in range(2):
            road = Road()
            road.send(host, "no piece at all")
            self.assert_settled(met_hosts(), road, False)
            road.lose(0)
            self.assert_settled(met_hosts(), road, True)

    def test_one_of_them_is_not_met(self):
        for which in range(2):
            hosts = met_hosts()
            hosts[which] = Host(10, 5, 3)
            self.assert_settled(hosts, Road(), False)
            # The other one's life is known, but it hasn't told that it knows this one's.
            hear(hosts[which], "hello", 1, 0)
            self.assert_settled(hosts, Road(), False)
            hear(hosts[which], "hello", 1, 1)
            self.assert_settled(hosts, Road(), True)

    def test_one_fell(self):
        hosts = met_hosts()
        hosts[1].fall()
        self.assert_settled(hosts, Road(), False)

    def test_a_giver_of_which_no_answer_was_taken(self):
        hosts = met_hosts()
        hosts[0].start()
        # Nothing is written, so all of it is answered.
        self.assert_settled(hosts, Road(), False)
        hear(hosts[0], "answer", 1, 1, 0, 0, 10, ())
        self.assert_settled(hosts, Road(), True)

    def test_a_giver_of_which_not_all_is_answered(self):
        hosts = met_hosts()
        hosts[0].start()
        hear(hosts[0], "answer", 1, 1, 0, 0, 10, ())
        hosts[0].write(0, "abc")
        self.assert_settled(hosts, Road(), False)
        for come, spans in ((0, ((1, 3),)), (1, ((2, 3),)), (2, ())):
            hear(hosts[0], "answer", 1, 1, 0, come, 10, spans)
            self.assert_settled(hosts, Road(), False)
        hear(hosts[0], "answer", 1, 1, 0, 3, 10, ())
        self.assert_settled(hosts, Road(), True)
        hosts[0].write(0, "d")
        self.assert_settled(hosts, Road(), False)

    def test_all_is_sent_but_nothing_answered(self):
        hosts = met_hosts()
        hosts[0].start()
        hosts[0].write(0, "a")
        hosts[0].tick()
        self.assertEqual(hosts[0].giver(0).sent, 1)
        self.assert_settled(hosts, Road(), False)

    def test_a_giver_of_which_the_end_is_not_answered(self):
        for signs in ("", "abc"):
            hosts = met_hosts()
            hosts[0].start()
            if signs:
                hosts[0].write(0, signs)
            hear(hosts[0], "answer", 1, 1, 0, len(signs), 10, ())
            self.assert_settled(hosts, Road(), True)
            hosts[0].finish(0)
            self.assert_settled(hosts, Road(), False)
            hear(hosts[0], "answer", 1, 1, 0, len(signs), 10, ())
            self.assert_settled(hosts, Road(), False)
            hear(hosts[0], "answer", 1, 1, 0, len(signs) + 1, 10, ())
            self.assert_settled(hosts, Road(), True)

    def test_each_giver_is_looked_at(self):
        for which in range(3):
            hosts = met_hosts()
            for stream in range(3):
                hosts[0].start()
                hear(hosts[0], "answer", 1, 1, stream, 0, 10, ())
            self.assert_settled(hosts, Road(), True)
            hosts[0].write(which, "a")
            self.assert_settled(hosts, Road(), False)

    def test_a_broken_giver_is_not_looked_at(self):
        hosts = met_hosts()
        hosts[0].start()
        hosts[0].write(0, "abc")
        hosts[0].finish(0)
        hear(hosts[0], "hello", 2, 1)
        self.assertEqual((hosts[0].broken(), hosts[0].meeting.is_met), ([0], True))
        self.assert_settled(hosts, Road(), True)

    def test_a_taker_of_which_not_all_was_taken(self):
        hosts = met_hosts()
        hear(hosts[0], "data", 1, 1, 4, 0, "abc")
        self.assert_settled(hosts, Road(), False)
        hosts[0].take(4, 2)
        self.assert_settled(hosts, Road(), False)
        hosts[0].take(4, 1)
        self.assert_settled(hosts, Road(), True)
        hear(hosts[0], "data", 1, 1, 4, 3, "d")
        self.assert_settled(hosts, Road(), False)

    def test_a_taker_of_which_nothing_has_come(self):
        hosts = met_hosts()
        hear(hosts[0], "data", 1, 1, 4, 0, "")
        self.assertEqual(hosts[0].others(), [4])
        self.assert_settled(hosts, Road(), True)

    def test_a_taker_with_an_end(self):
        hosts = met_hosts()
        hear(hosts[0], "data", 1, 1, 4, 0, "abc")
        hear(hosts[0], "end", 1, 1, 4, 3)
        self.assert_settled(hosts, Road(), False)
        hosts[0].take(4, 3)
        self.assert_settled(hosts, Road(), True)

    def test_each_taker_is_looked_at(self):
        for which in range(3):
            hosts = met_hosts()
            for stream in range(3):
                hear(hosts[0], "data", 1, 1, stream, 0, "abc" if stream == which else "")
            self.assert_settled(hosts, Road(), False)

    def test_a_broken_taker_is_not_looked_at(self):
        hosts = met_hosts()
        hear(hosts[0], "data", 1, 1, 4, 0, "abc")
        hear(hosts[0], "hello", 2, 1)
        self.assertEqual(hosts[0].others(), [])
        self.assert_settled(hosts, Road(), True)

    def test_nothing_is_changed(self):
        hosts = met_hosts()
        hosts[0].start()
        hosts[0].write(0, "abc")
        hear(hosts[0], "data", 1, 1, 4, 0, "abc")
        road = Road()
        road.send(0, "a")
        is_settled(hosts, road)
        road.lose(0)
        is_settled(hosts, road)
        self.assertEqual((len(hosts), hosts[0].streams(), hosts[0].others()), (2, [0], [4]))
        self.assertEqual((hosts[0].giver(0).sent, hosts[0].taker(4).read), (0, 0))
        self.assertEqual(road.log(), [("send", 0, 0, "a"), ("lose", 0)])


if __name__ == "__main__":
    unittest.main()
