"""Point [73], with [1], [35], [43], [56] and [63]: drawn runs over a road that does whatever it likes."""

import random
import unittest

from ferry.errors import FerryError
from ferry.logs import is_gone, sent_text
from ferry.settling import is_settled
from ferry.worlds import World

SIGNS = "".join([chr(code) for code in range(32, 127) if code != 37])


class Watched(World):
    """A world that is looked at behind each deed, those of settle too.

    What was written and taken is kept by the host that opened a stream, both lives then, and the number.
    """

    def __init__(self, case, room, most, budget):
        World.__init__(self, room, most, budget)
        self.case = case
        self.most_kept = room
        self.written = {}
        self.finished = {}
        self.taken = {}
        self.carried = []

    def own_key(self, host, stream):
        me = self.hosts[host]
        return (host, me.life, me.meeting.yours, stream)

    def other_key(self, host, stream):
        me = self.hosts[host]
        return (1 - host, me.meeting.yours, me.life, stream)

    def do(self, deed):
        flying = self.road.flying()
        answer = World.do(self, deed)
        self.keep(deed, answer)
        if deed[0] == "carry":
            self.carried.append(flying[deed[1]][0])
            self.check_host(flying[deed[1]][1])
        elif deed[0] == "take":
            self.check_taker(deed[1], deed[2])
        self.case.assertLessEqual(len(self.road.flying()), 200)
        return answer

    def keep(self, deed, answer):
        kind = deed[0]
        if kind == "open":
            key = self.own_key(deed[1], answer)
            self.case.assertNotIn(key, self.written)
            self.written[key] = ""
            self.finished[key] = False
        elif kind == "write":
            self.written[self.own_key(deed[1], deed[2])] += deed[3]
        elif kind == "finish":
            self.finished[self.own_key(deed[1], deed[2])] = True
        elif kind == "take":
            key = self.other_key(deed[1], deed[2])
            self.case.assertIn(key, self.written)
            self.taken[key] = self.taken.get(key, "") + answer

    def check_host(self, host):
        for stream in self.hosts[host].others():
            self.check_taker(host, stream)

    def check_taker(self, host, stream):
        case = self.case
        taker = self.hosts[host].taker(stream)
        key = self.other_key(host, stream)
        case.assertIn(key, self.written)
        case.assertTrue(self.written[key].startswith(taker.text))
        case.assertTrue(self.written[key].startswith(self.taken.get(key, "")))
        case.assertEqual(taker.text[:taker.read], self.taken.get(key, ""))
        case.assertLessEqual(len(taker.text), taker.read + self.most_kept)
        for begin, end in taker.answer()[2]:
            case.assertLessEqual(end, taker.read + self.most_kept)
        if taker.is_done:
            case.assertTrue(self.finished[key])
            case.assertEqual(self.taken.get(key, ""), self.written[key])

    def rounds_enough(self):
        givers = [host.giver(stream) for host in self.hosts for stream in host.streams()]
        unanswered = sum([len(giver.text) - min(giver.come, len(giver.text)) for giver in givers])
        return 3 * unanswered + 10 * len(givers) + 20

    def check_settled(self):
        case = self.case
        case.assertIs(is_settled(self.hosts, self.road), True)
        for host in range(2):
            self.check_host(host)
            me = self.hosts[host]
            other = self.hosts[1 - host]
            case.assertEqual(me.meeting.yours, other.life)
            case.assertEqual(me.streams(), other.others())
            for stream in me.streams():
                key = self.own_key(host, stream)
                case.assertEqual(self.taken.get(key, ""), self.written[key])
                case.assertEqual(me.giver(stream).text, self.written[key])
                case.assertIs(me.giver(stream).is_done, self.finished[key])
                case.assertIs(other.taker(stream).is_done, self.finished[key])

    def check_road(self):
        """Point [63]: nothing twice, and what arrived is what was sent with at most one sign another."""
        log = self.road.log()
        self.case.assertEqual(len(self.carried), len(set(self.carried)))
        first_texts = {}
        for entry in log:
            if entry[0] == "send":
                first_texts[entry[1]] = entry[3]
            elif entry[0] == "double":
                first_texts[entry[2]] = first_texts[entry[1]]
            elif entry[0] == "carry":
                sent = first_texts[entry[1]]
                others = [at for at in range(len(sent)) if sent[at] != entry[3][at]]
                self.case.assertLessEqual(len(others), 1)
                self.case.assertEqual(len(sent), len(entry[3]))


class Run:
    """Draws deeds for a world."""

    def __init__(self, case, chance, weights):
        self.chance = chance
        self.weights = weights
        self.kinds = list(weights)
        self.most_streams = chance.choice((1, 3, 8))
        self.most_signs = chance.choice((2, 12, 60))
        sizes = (chance.choice((1, 2, 7, 40, 200)), chance.choice((1, 3, 40)), chance.choice((1, 2, 20)))
        self.world = Watched(case, *sizes)

    def step(self):
        kind = self.chance.choices(self.kinds, [self.weights[one] for one in self.kinds])[0]
        deed = self.drawn(kind)
        if deed is not None:
            try:
                self.world.do(deed)
            except FerryError:
                pass

    def drawn(self, kind):
        chance = self.chance
        host = chance.randint(0, 1)
        me = self.world.hosts[host]
        if kind in ("tick", "fall"):
            return (kind, host)
        if kind == "open":
            return (kind, host) if len(me.streams()) < self.most_streams else None
        if kind in ("write", "finish"):
            return self.drawn_write(kind, host, me.streams())
        if kind == "take":
            others = me.others()
            return (kind, host, chance.choice(others), chance.randint(1, 20)) if others else None
        return self.drawn_for_road(kind, len(self.world.road.flying()))

    def drawn_write(self, kind, host, streams):
        if not streams:
            return None
        stream = self.chance.choice(streams)
        if kind == "finish":
            return (kind, host, stream)
        # Signs that tell streams, hosts and lives apart, among others.
        mark = SIGNS[(host * 50 + stream + 7 * self.world.hosts[host].life) % len(SIGNS)]
        count = self.chance.randint(1, self.most_signs)
        return (kind, host, stream, "".join([self.chance.choice((mark, self.chance.choice(SIGNS))) for sign in range(count)]))

    def drawn_for_road(self, kind, count):
        if count == 0:
            return None
        place = self.chance.randrange(count)
        if kind == "turn":
            return (kind, place, self.chance.randrange(count))
        if kind == "spoil":
            text = self.world.road.text_of(self.world.road.flying()[place][0])
            return (kind, place, self.chance.randrange(len(text)), self.chance.choice(SIGNS))
        # Now the first, now whichever.
        return (kind, place if self.chance.randint(0, 2) > 0 else 0)


HOST_WEIGHTS = {"open": 4, "write": 8, "finish": 1, "take": 8, "tick": 25}
CLEAN = {**HOST_WEIGHTS, "carry": 50}
LOSSY = {**HOST_WEIGHTS, "carry": 30, "lose": 12, "double": 6, "turn": 6, "spoil": 8}
FALLING = {**LOSSY, "fall": 1}
CROWDED = {**HOST_WEIGHTS, "carry": 10, "lose": 1, "double": 30, "turn": 6, "spoil": 4}
FALLING_CROWDED = {**CROWDED, "fall": 1}


class Promise(unittest.TestCase):
    def run_one(self, chance, weights, steps):
        run = Run(self, chance, weights)
        for step in range(steps):
            run.step()
        self.settle(run.world)
        return run

    def settle(self, world):
        rounds = world.rounds_enough()
        needed = world.settle(rounds)
        self.assertLessEqual(needed, rounds)
        world.check_settled()
        self.assertEqual(world.settle(1), 0)

    def run_many(self, seed, weights, count, steps):
        chance = random.Random(seed)
        signs = 0
        lives = 0
        for turn in range(count):
            run = self.run_one(chance, weights, chance.randint(1, steps))
            run.world.check_road()
            signs += sum([len(text) for text in run.world.taken.values()])
            lives += run.world.hosts[0].life + run.world.hosts[1].life - 2
        return signs, lives

    def test_a_clean_road(self):
        signs, lives = self.run_many(731, CLEAN, 30, 500)
        self.assertGreater(signs, 1000)

    def test_a_lossy_road(self):
        signs, lives = self.run_many(732, LOSSY, 120, 600)
        self.assertGreater(signs, 3000)

    def test_through_falls(self):
        signs, lives = self.run_many(733, FALLING, 180, 600)
        self.assertGreater(signs, 3000)
        self.assertGreater(lives, 50)

    def test_a_crowded_road(self):
        signs, lives = self.run_many(734, CROWDED, 30, 600)
        self.assertGreater(signs, 1000)
        signs, lives = self.run_many(735, FALLING_CROWDED, 40, 600)
        self.assertGreater(signs, 200)
        self.assertGreater(lives, 20)

    def test_runs_that_go_on_behind_a_settle(self):
        chance = random.Random(736)
        for turn in range(15):
            run = Run(self, chance, FALLING)
            for part in range(4):
                for step in range(chance.randint(1, 200)):
                    run.step()
                self.settle(run.world)

    def test_a_settle_of_too_few_rounds_breaks_nothing(self):
        chance = random.Random(737)
        for turn in range(15):
            run = Run(self, chance, LOSSY)
            for part in range(6):
                for step in range(chance.randint(1, 100)):
                    run.step()
                self.assertLessEqual(run.world.settle(2), 2)
            self.settle(run.world)

    def test_the_log_of_the_road_tells_what_is_gone(self):
        chance = random.Random(738)
        run = self.run_one(chance, FALLING, 400)
        log = run.world.road.log()
        for number in run.world.carried[:50]:
            self.assertIs(is_gone(log, number), True)
            self.assertIsInstance(sent_text(log, number), str)


class Rounds(unittest.TestCase):
    """The told number of rounds is enough where it is narrow: many streams, little room, small budgets."""

    def settle(self, world):
        rounds = world.rounds_enough()
        world.settle(rounds)
        world.check_settled()

    def test_many_streams(self):
        for room, most, budget in ((1, 1, 1), (1, 40, 1), (200, 1, 1), (1, 1, 20), (200, 40, 20)):
            for signs in ("", "a", "abcde"):
                world = Watched(self, room, most, budget)
                world.settle(1)
                for host in range(2):
                    for stream in range(50):
                        world.do(("open", host))
                        if signs:
                            world.do(("write", host, stream, signs))
                        world.do(("finish", host, stream))
                self.settle(world)

    def test_a_full_stream(self):
        for room, most, budget in ((1, 1, 1), (200, 40, 20)):
            world = Watched(self, room, most, budget)
            world.settle(1)
            world.do(("open", 1))
            for turn in range(10):
                world.do(("write", 1, 0, "ferry" * 40))
            with self.assertRaises(FerryError):
                world.do(("write", 1, 0, "x"))
            world.do(("finish", 1, 0))
            self.settle(world)

    def test_all_lost_ahead(self):
        world = Watched(self, 200, 40, 20)
        world.settle(1)
        for stream in range(20):
            world.do(("open", 0))
            world.do(("write", 0, stream, "a" * 100))
        for turn in range(20):
            world.do(("tick", 0))
            world.do(("tick", 1))
            while world.road.flying():
                world.do(("lose", 0))
        self.settle(world)

    def test_a_road_that_is_full_of_old_pieces(self):
        world = Watched(self, 5, 2, 3)
        world.settle(1)
        for host in range(2):
            world.do(("open", host))
            world.do(("write", host, 0, "abcdefgh"))
        while len(world.road.flying()) < 100:
            world.do(("tick", 0))
            world.do(("tick", 1))
        world.do(("fall", 0))
        world.do(("tick", 0))
        world.do(("carry", 100))
        while len(world.road.flying()) < 200:
            world.do(("tick", 0))
        self.settle(world)
        self.assertEqual(world.hosts[1].broken(), [0])


if __name__ == "__main__":
    unittest.main()
