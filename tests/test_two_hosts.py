"""Point [56] and what of [1] it holds: two hosts, and the texts between them lost, doubled, turned about and spoilt."""

import random
import unittest

from ferry.errors import Spoilt
from ferry.hosts import Host
from ferry.pieces import read, written

SIGNS = "".join([chr(code) for code in range(32, 127) if code != 37])


class Run:
    """Two hosts and a road; written and taken are kept by the host that opened, both lives and the number."""

    def __init__(self, case, chance):
        self.case = case
        self.chance = chance
        self.room = chance.choice((1, 3, 10, 40, 200))
        self.hosts = [Host(self.room, chance.choice((1, 4, 40)), chance.choice((1, 2, 20))) for host in range(2)]
        self.road = []
        self.written = {}
        self.taken = {}

    def own_key(self, host, stream):
        me = self.hosts[host]
        return (host, me.life, me.meeting.yours, stream)

    def other_key(self, host, stream):
        me = self.hosts[host]
        return (1 - host, me.meeting.yours, me.life, stream)

    def start(self, host):
        if self.hosts[host].meeting.yours > 0 and len(self.hosts[host].streams()) < 4:
            if len(self.hosts[host].streams() + self.hosts[host].broken()) < 50:
                stream = self.hosts[host].start()
                key = self.own_key(host, stream)
                self.case.assertNotIn(key, self.written)
                self.written[key] = ""

    def write(self, host):
        streams = [one for one in self.hosts[host].streams() if not self.hosts[host].giver(one).is_ended]
        if streams:
            stream = self.chance.choice(streams)
            # Signs that tell the streams and hosts apart.
            mark = "abcdefgh"[stream % 8] if host == 0 else "ABCDEFGH"[stream % 8]
            signs = "".join([mark + self.chance.choice("0123456789 ") for turn in range(self.chance.randint(1, 6))])
            self.hosts[host].write(stream, signs)
            self.written[self.own_key(host, stream)] += signs

    def finish(self, host):
        streams = [one for one in self.hosts[host].streams() if not self.hosts[host].giver(one).is_ended]
        if streams:
            self.hosts[host].finish(self.chance.choice(streams))

    def take(self, host, stream, count):
        signs = self.hosts[host].take(stream, count)
        key = self.other_key(host, stream)
        self.taken[key] = self.taken.get(key, "") + signs
        self.case.assertIn(key, self.written)
        self.case.assertTrue(self.written[key].startswith(self.taken[key]))
        return signs

    def take_some(self, host):
        others = self.hosts[host].others()
        if others:
            self.take(host, self.chance.choice(others), self.chance.randint(1, 9))

    def send(self, host, texts):
        for text in texts:
            read(text)
            self.road.append((1 - host, text))

    def tick(self, host):
        self.send(host, self.hosts[host].tick())

    def carry(self, place):
        host, text = self.road.pop(place)
        self.send(host, self.hosts[host].hear(text))

    def road_deed(self):
        if not self.road:
            return
        place = self.chance.randrange(len(self.road))
        fate = self.chance.randint(0, 11)
        if fate <= 1:
            self.road.pop(place)
        elif fate <= 3:
            self.road.append(self.road[place])
        elif fate == 4:
            self.road[place] = self.spoilt(*self.road[place])
        else:
            self.carry(place)

    def spoilt(self, host, text):
        """One sign another; what is spoilt already stays, as a second sign could mend its check."""
        try:
            read(text)
        except Spoilt:
            return host, text
        at = self.chance.randrange(len(text))
        return host, text[:at] + self.chance.choice(SIGNS) + text[at + 1:]

    def step(self, falls):
        host = self.chance.randint(0, 1)
        deed = self.chance.randint(0, 29)
        if deed <= 1:
            self.start(host)
        elif deed <= 4:
            self.write(host)
        elif deed == 5 and self.chance.randint(0, 3) == 0:
            self.finish(host)
        elif deed <= 8:
            self.take_some(host)
        elif deed <= 14:
            self.tick(host)
        elif deed <= 28:
            self.road_deed()
        elif falls and self.chance.randint(0, 3) == 0 and self.hosts[host].life < 40:
            self.hosts[host].fall()
        self.check()

    def check(self):
        for host in range(2):
            for stream in self.hosts[host].others():
                taker = self.hosts[host].taker(stream)
                key = self.other_key(host, stream)
                self.case.assertTrue(self.written[key].startswith(taker.text))
                self.case.assertEqual(taker.text[:taker.read], self.taken.get(key, ""))
                self.case.assertLessEqual(len(taker.text) - taker.read, self.room)

    def clean_round(self):
        for host in range(2):
            self.tick(host)
        while self.road:
            self.carry(0)
        for host in range(2):
            for stream in self.hosts[host].others():
                while self.take(host, stream, 200):
                    pass
        self.check()

    def rounds_enough(self):
        givers = [host.giver(stream) for host in self.hosts for stream in host.streams()]
        return 3 * sum([len(giver.text) - giver.come + 1 for giver in givers]) + 10 * len(givers) + 20


class TwoHosts(unittest.TestCase):
    def run_once(self, chance, falls):
        run = Run(self, chance)
        for step in range(chance.randint(100, 500)):
            run.step(falls)
        for turn in range(run.rounds_enough()):
            run.clean_round()
        for host in range(2):
            self.check_end(run, host)
        return run

    def check_end(self, run, host):
        me = run.hosts[host]
        other = run.hosts[1 - host]
        self.assertIs(me.meeting.is_met, True)
        self.assertEqual(me.meeting.yours, other.life)
        for stream in me.streams():
            giver = me.giver(stream)
            self.assertEqual(run.taken.get(run.own_key(host, stream), ""), giver.text)
            self.assertEqual(run.written[run.own_key(host, stream)], giver.text)
            self.assertIs(giver.is_heard, True)
            self.assertIs(giver.is_done, giver.is_ended)
            self.assertIs(other.taker(stream).is_done, giver.is_ended)
        self.assertLessEqual(set(other.others()), set(me.streams()))
        self.assertEqual(me.tick(), [])

    def test_without_falls(self):
        chance = random.Random(56)
        signs = 0
        for turn in range(60):
            run = self.run_once(chance, False)
            self.assertEqual(run.taken, {key: text for key, text in run.written.items()})
            signs += sum([len(text) for text in run.taken.values()])
        self.assertGreater(signs, 3000)

    def test_through_falls(self):
        chance = random.Random(57)
        signs = 0
        lives = 0
        for turn in range(100):
            run = self.run_once(chance, True)
            signs += sum([len(text) for text in run.taken.values()])
            lives += run.hosts[0].life + run.hosts[1].life
        self.assertGreater(signs, 3000)
        self.assertGreater(lives, 300)

    def test_all_old_texts_once_more_behind_falls(self):
        chance = random.Random(58)
        for turn in range(20):
            run = Run(self, chance)
            old = []
            for step in range(300):
                run.step(False)
                old.extend(run.road)
            run.hosts[0].fall()
            for turn_again in range(3):
                run.clean_round()
            for host in range(2):
                run.start(host)
                run.write(host)
            kept = [one.streams() for one in run.hosts]
            run.road.extend(old)
            chance.shuffle(run.road)
            run.road = run.road[:1000]
            for round_again in range(run.rounds_enough()):
                run.clean_round()
            self.assertEqual([one.streams() for one in run.hosts], kept)
            for host in range(2):
                self.check_end(run, host)


class Served(unittest.TestCase):
    def test_within_as_many_ticks_as_there_are_givers(self):
        for budget in (1, 2, 5, 20):
            for count in (1, 2, 3, 7, 30, 50):
                host = Host(10, 5, budget)
                host.hear(written(("hello", 1, 1)))
                for stream in range(count):
                    host.start()
                    host.write(stream, "abcdefghijkl")
                waited = {stream: 0 for stream in range(count)}
                for tick in range(3 * count):
                    served = [read(text)[3] for text in host.tick()]
                    self.assertEqual(len(served), min(budget, count))
                    for stream in range(count):
                        waited[stream] = 0 if stream in served else waited[stream] + 1
                        self.assertLess(waited[stream], count)


if __name__ == "__main__":
    unittest.main()
