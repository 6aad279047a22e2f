"""Point [35]: a giver and a taker together, with parts and answers lost, doubled and turned about."""

import random
import unittest

from ferry.givers import Giver
from ferry.takers import Taker

# Small enough that an answer tells all spans of the taker.
MOST_ROOM = 16


class Pair:
    """A giver and a taker, and what is on its way between them."""

    def __init__(self, case, chance):
        self.case = case
        self.chance = chance
        self.most = chance.randint(1, 7)
        self.room = chance.randint(1, MOST_ROOM)
        self.giver = Giver(self.most)
        self.taker = Taker(self.room)
        self.parts = []
        self.answers = []
        self.taken = ""
        self.arrived = set()
        self.end_arrived = False
        self.greatest_limit = 1

    def write(self):
        if not self.giver.is_ended:
            size = self.chance.randint(1, 12)
            self.giver.write("".join([self.chance.choice("abcdefgh ~") for place in range(size)]))

    def finish(self):
        if not self.giver.is_ended:
            self.giver.finish()

    def send(self, count):
        parts = self.giver.next_parts(count)
        if not parts:
            parts = self.giver.again(count)
        for part in parts:
            if part[0] == "data":
                self.case.assertLessEqual(part[1] + len(part[2]), self.greatest_limit)
                self.case.assertLessEqual(len(part[2]), self.most)
                self.case.assertEqual(part[2], self.giver.text[part[1]:part[1] + len(part[2])])
        self.parts.extend(parts)
        return parts

    def arrive(self, part):
        if part[0] == "data":
            self.taker.put(part[1], part[2])
            self.arrived |= set(range(part[1], part[1] + len(part[2])))
        else:
            self.taker.ends(part[1])
            self.end_arrived = True
        self.answers.append(self.taker.answer())

    def tell(self, answer):
        self.greatest_limit = max(self.greatest_limit, answer[1])
        self.giver.answered(*answer)
        self.case.assertIs(self.giver.is_heard, True)

    def take(self):
        self.taken += self.taker.take(self.chance.randint(1, 8))

    def one_of(self, row, do):
        """Lets one on its way arrive, get lost or be doubled, whichever and at whatever place."""
        if row:
            place = self.chance.randrange(len(row))
            fate = self.chance.randint(0, 3)
            if fate == 0:
                row.pop(place)
            elif fate == 1:
                row.append(row[place])
            else:
                do(row.pop(place))

    def step(self):
        deed = self.chance.randint(0, 13)
        if deed <= 1:
            self.write()
        elif deed <= 3:
            self.send(self.chance.randint(1, 3))
        elif deed <= 7:
            self.one_of(self.parts, self.arrive)
        elif deed <= 11:
            self.one_of(self.answers, self.tell)
        elif deed == 12:
            self.take()
        elif self.chance.randint(0, 9) == 0:
            self.finish()
        self.check()

    def check(self):
        case = self.case
        case.assertTrue(self.giver.text.startswith(self.taker.text))
        case.assertEqual(self.taken, self.taker.text[:self.taker.read])
        come, limit, spans = self.taker.answer()
        kept = len(self.taker.text) - self.taker.read + sum([end - begin for begin, end in spans])
        case.assertLessEqual(kept, self.room)
        case.assertEqual(limit, self.taker.read + self.room)
        for begin, end in spans + ((0, len(self.taker.text)),):
            case.assertLessEqual(end, limit)
            case.assertLessEqual(set(range(begin, end)), self.arrived)
        if come > len(self.taker.text):
            case.assertTrue(self.end_arrived)
            case.assertEqual(self.taker.text, self.giver.text)
        case.assertLessEqual(self.giver.come, come)
        if self.taker.is_done:
            case.assertTrue(self.giver.is_ended)
            case.assertEqual(self.taken, self.giver.text)

    def clean_round(self):
        for part in self.send(1):
            self.parts.remove(part)
            self.arrive(part)
            self.tell(self.answers.pop())
        self.taken += self.taker.take(200)
        self.check()


class GiverAndTaker(unittest.TestCase):
    def test_whatever_comes_and_all_in_the_end(self):
        chance = random.Random(35)
        lengths = 0
        for turn in range(150):
            pair = Pair(self, chance)
            for step in range(chance.randint(0, 150)):
                pair.step()
            pair.finish()
            rounds = 3 * len(pair.giver.text) + 30
            while rounds > 0 and not (pair.giver.is_done and pair.taker.is_done):
                pair.clean_round()
                rounds -= 1
            self.assertIs(pair.giver.is_done, True)
            self.assertIs(pair.taker.is_done, True)
            self.assertEqual(pair.taken, pair.giver.text)
            self.assertEqual(pair.giver.again(9), [])
            lengths += len(pair.taken)
        self.assertGreater(lengths, 3000)

    def test_old_parts_and_answers_behind_the_end_change_nothing(self):
        chance = random.Random(36)
        for turn in range(30):
            pair = Pair(self, chance)
            pair.write()
            pair.write()
            for step in range(60):
                pair.step()
            pair.finish()
            while not (pair.giver.is_done and pair.taker.is_done):
                pair.clean_round()
            for part in pair.parts:
                pair.arrive(part)
            for answer in pair.answers:
                pair.tell(answer)
            pair.check()
            self.assertEqual(pair.taker.take(200), "")
            self.assertIs(pair.giver.is_done, True)
            self.assertIs(pair.taker.is_done, True)

    def test_a_whole_long_stream_through_a_narrow_room(self):
        for most, room in ((40, 1), (1, 200), (40, 200), (7, 5)):
            giver = Giver(most)
            taker = Taker(room)
            text = "".join([chr(40 + place * 31 % 80) for place in range(2000)])
            for at in range(0, 2000, 200):
                giver.write(text[at:at + 200])
            giver.finish()
            taken = ""
            while not taker.is_done:
                for part in giver.next_parts(1) or giver.again(1):
                    if part[0] == "data":
                        taker.put(part[1], part[2])
                    else:
                        taker.ends(part[1])
                taken += taker.take(200)
                giver.answered(*taker.answer())
            self.assertEqual(taken, text)
            self.assertIs(giver.is_done, True)


if __name__ == "__main__":
    unittest.main()
