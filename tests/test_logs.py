"""What the log of a road tells of a piece: sent_text and is_gone, interface of stage 6."""

import random
import unittest

from ferry.logs import is_gone, sent_text
from ferry.roads import Road

FAR = 10 ** 12


def road_of(*texts):
    road = Road()
    for text in texts:
        road.send(1, text)
    return road


class LogCase(unittest.TestCase):
    def assert_told(self, road, number, text, gone):
        told = sent_text(road.log(), number)
        self.assertIs(type(told), str)
        self.assertEqual(told, text)
        self.assertIs(is_gone(road.log(), number), gone)

    def assert_nothing(self, log, number):
        self.assertIs(sent_text(log, number), None)
        self.assertIs(is_gone(log, number), False)


class Logs(LogCase):
    def test_an_empty_log(self):
        for number in (0, 1, FAR):
            self.assert_nothing([], number)
            self.assert_nothing(Road().log(), number)

    def test_numbers_that_the_log_has_not(self):
        road = road_of("abc", "def")
        road.double(0)
        road.turn(0, 1)
        road.spoil(0, 0, "x")
        road.lose(0)
        road.carry(0)
        for number in (3, 4, 200, FAR):
            self.assert_nothing(road.log(), number)

    def test_sent(self):
        road = road_of("abc", "def", "abc")
        self.assert_told(road, 0, "abc", False)
        self.assert_told(road, 1, "def", False)
        self.assert_told(road, 2, "abc", False)

    def test_carried(self):
        road = road_of("abc", "def", "ghi")
        road.carry(1)
        self.assert_told(road, 0, "abc", False)
        self.assert_told(road, 1, "def", True)
        self.assert_told(road, 2, "ghi", False)

    def test_lost(self):
        road = road_of("abc", "def", "ghi")
        road.lose(0)
        road.lose(1)
        self.assert_told(road, 0, "abc", True)
        self.assert_told(road, 1, "def", False)
        self.assert_told(road, 2, "ghi", True)

    def test_lost_at_once(self):
        road = road_of(*["abc"] * 200)
        road.send(0, "def")
        road.send(0, "ghi")
        self.assert_told(road, 199, "abc", False)
        self.assert_told(road, 200, "def", True)
        self.assert_told(road, 201, "ghi", True)

    def test_doubled(self):
        road = road_of("abc", "def")
        road.double(1)
        self.assert_told(road, 1, "def", False)
        self.assert_told(road, 2, "def", False)
        road.carry(1)
        self.assert_told(road, 1, "def", True)
        self.assert_told(road, 2, "def", False)
        road.lose(1)
        self.assert_told(road, 2, "def", True)

    def test_doubled_when_spoilt(self):
        road = road_of("abc")
        road.double(0)
        road.spoil(0, 1, "x")
        road.double(0)
        self.assert_told(road, 0, "abc", False)
        self.assert_told(road, 1, "abc", False)
        self.assert_told(road, 2, "axc", False)
        road.double(2)
        self.assert_told(road, 3, "axc", False)

    def test_a_doubling_spoilt_then_doubled(self):
        road = road_of("abc")
        road.double(0)
        road.spoil(1, 0, "x")
        road.double(1)
        road.double(0)
        self.assert_told(road, 1, "abc", False)
        self.assert_told(road, 2, "xbc", False)
        self.assert_told(road, 3, "abc", False)

    def test_spoilt_behind(self):
        road = road_of("abc", "def")
        road.spoil(0, 1, "x")
        self.assert_told(road, 0, "abc", False)
        road.carry(0)
        self.assert_told(road, 0, "abc", True)
        self.assert_told(road, 1, "def", False)

    def test_doubled_and_lost_at_once(self):
        road = road_of(*["abc"] * 200)
        road.double(7)
        road.spoil(7, 2, "x")
        road.double(7)
        self.assert_told(road, 7, "abc", False)
        self.assert_told(road, 200, "abc", True)
        self.assert_told(road, 201, "abx", True)

    def test_what_is_done_to_another_piece(self):
        road = road_of("abc", "def", "ghi")
        # Host 1 and the other numbers in an entry aren't the piece's own.
        road.turn(0, 2)
        road.double(0)
        road.carry(1)
        for number, text in ((0, "abc"), (2, "ghi"), (3, "ghi")):
            self.assert_told(road, number, text, False)

    def test_the_log_stays_as_it_was(self):
        road = road_of("abc")
        road.double(0)
        log = road.log()
        sent_text(log, 1)
        is_gone(log, 1)
        self.assertEqual(log, [("send", 0, 1, "abc"), ("double", 0, 1)])

    def test_a_beginning_of_a_log(self):
        road = road_of("abc")
        road.double(0)
        road.lose(0)
        road.lose(0)
        log = road.log()
        self.assert_nothing(log[:1], 1)
        self.assertEqual([is_gone(log[:count], 0) for count in range(5)], [False, False, False, True, True])
        self.assertEqual([is_gone(log[:count], 1) for count in range(5)], [False, False, False, False, True])


class Drawn(LogCase):
    def test_drawn_deeds(self):
        chance = random.Random(62)
        for turn in range(20):
            road = Road()
            # By numbers: the text as it was put on the road.
            texts = []
            for step in range(400):
                self.do_one(chance, road, texts)
            flying = [pair[0] for pair in road.flying()]
            for number, text in enumerate(texts):
                self.assert_told(road, number, text, number not in flying)
            self.assert_nothing(road.log(), len(texts))

    def do_one(self, chance, road, texts):
        flying = road.flying()
        deed = chance.randint(0, 15)
        if deed <= 5 or not flying:
            texts.append("".join([chance.choice("abc") for place in range(3)]))
            road.send(chance.randint(0, 1), texts[-1])
            return
        place = chance.randrange(len(flying))
        text = road.text_of(flying[place][0])
        if deed <= 11:
            texts.append(text)
            road.double(place)
        elif deed == 12:
            road.carry(place)
        elif deed == 13:
            road.lose(place)
        elif deed == 14:
            road.turn(place, chance.randrange(len(flying)))
        elif "x" not in text:
            road.spoil(place, chance.randrange(3), "x")


if __name__ == "__main__":
    unittest.main()
