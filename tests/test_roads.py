"""Points [60] to [63]: the road, what is put on it, what is done to it, and its log."""

import random
import unittest

from ferry.errors import NoDeed, NoPiece
from ferry.pieces import written
from ferry.roads import Road

FAR = 10 ** 12
MOST = 200
SIGNS = "".join([chr(code) for code in range(32, 127) if code != 37])
# What is no number at all, whatever is told.
NO_NUMBERS = (True, False, None, "", "0", "1", 0.0, 1.0, (), (0,), [], [0], {}, object())


def road_of(*texts):
    """A road with these texts, the numbers from 0 on, to hosts 0, 1, 0 and so on."""
    road = Road()
    for place, text in enumerate(texts):
        road.send(place % 2, text)
    return road


def filled(count):
    road = Road()
    for place in range(count):
        road.send(place % 2, f"text {place}")
    return road


def state(road):
    return (road.flying(), road.log(), [road.text_of(number) for number in range(-1, 450)])


class RoadCase(unittest.TestCase):
    def assert_refused(self, refusal, road, method, *arguments):
        kept = state(road)
        with self.assertRaises(refusal):
            method(*arguments)
        self.assertEqual(state(road), kept)
        # The number that would have been given is still to come.
        self.assertEqual(road.send(0, "next"), new_number(kept[1]))

    def assert_number(self, told, number):
        self.assertIs(type(told), int)
        self.assertEqual(told, number)

    def assert_flying(self, road, *numbers):
        told = road.flying()
        self.assertIsInstance(told, list)
        self.assertEqual([pair[0] for pair in told], list(numbers))
        for pair in told:
            self.assertIs(type(pair), tuple)
            self.assertEqual(len(pair), 2)


def new_number(log):
    given = [entry[2] if entry[0] == "double" else entry[1] for entry in log if entry[0] in ("send", "full", "double")]
    return len(set(given))


class Making(RoadCase):
    def test_an_empty_road(self):
        road = Road()
        self.assertEqual(road.flying(), [])
        self.assertEqual(road.log(), [])
        self.assertIs(road.text_of(0), None)

    def test_two_have_nothing_to_do_with_one_another(self):
        one = road_of("a", "b")
        one.lose(0)
        other = Road()
        self.assertEqual((other.flying(), other.log()), ([], []))
        self.assert_number(other.send(1, "c"), 0)


class Send(RoadCase):
    def test_numbers_and_order(self):
        road = Road()
        for number, host in enumerate((0, 1, 1, 0)):
            self.assert_number(road.send(host, f"text {number}"), number)
        self.assertEqual(road.flying(), [(0, 0), (1, 1), (2, 1), (3, 0)])
        self.assertEqual([road.text_of(number) for number in range(4)], ["text 0", "text 1", "text 2", "text 3"])
        self.assert_flying(road, 0, 1, 2, 3)

    def test_numbers_go_on_whatever_was_taken_off(self):
        road = road_of("a", "b", "c")
        road.lose(2)
        self.assert_number(road.send(0, "d"), 3)
        road.carry(0)
        self.assert_number(road.send(0, "e"), 4)
        self.assert_number(road.double(0), 5)
        self.assert_number(road.send(1, "f"), 6)
        self.assert_flying(road, 1, 3, 4, 5, 6)
        while road.flying():
            road.lose(0)
        self.assert_number(road.send(1, "g"), 7)

    def test_the_same_text_twice(self):
        road = Road()
        self.assertEqual([road.send(0, "a"), road.send(0, "a")], [0, 1])
        self.assertEqual(road.flying(), [(0, 0), (1, 0)])

    def test_hosts(self):
        for host in (0, 1):
            self.assert_number(Road().send(host, "a"), 0)
        for host in (2, 3, -1, -2, FAR, -FAR) + NO_NUMBERS:
            road = road_of("x")
            self.assert_refused(NoPiece, road, road.send, host, "a")

    def test_lengths_of_texts(self):
        for text in ("a", " ", "ab", "b" * 399, "c" * 400):
            road = Road()
            self.assert_number(road.send(0, text), 0)
            self.assertEqual(road.text_of(0), text)
            self.assertEqual(road.log(), [("send", 0, 0, text)])
        for text in ("", "a" * 401, "a" * 1000):
            road = road_of("x")
            self.assert_refused(NoPiece, road, road.send, 0, text)

    def test_signs_of_texts(self):
        road = Road()
        road.send(0, SIGNS)
        self.assertEqual(road.text_of(0), SIGNS)
        for sign in ("\t", "\n", "%"):
            for text in (sign, "ab" + sign, sign + "ab", "a" + sign + "b"):
                road = road_of("x")
                self.assert_refused(NoPiece, road, road.send, 1, text)

    def test_what_is_no_text(self):
        for thing in (True, False, None, 0, 1, 17, (), ("a",), [], ["a"], {}, b"a", object(), ("hello", 1, 0)):
            road = road_of("x")
            self.assert_refused(NoPiece, road, road.send, 0, thing)

    def test_both_wrong(self):
        road = road_of("x")
        self.assert_refused(NoPiece, road, road.send, 2, "")
        road = road_of("x")
        self.assert_refused(NoPiece, road, road.send, None, None)

    def test_refused_on_a_full_road_too(self):
        road = filled(MOST)
        self.assert_refused(NoPiece, road, road.send, 0, "")
        road = filled(MOST)
        self.assert_refused(NoPiece, road, road.send, 2, "a")


class Full(RoadCase):
    def test_two_hundred_in_flight(self):
        road = filled(MOST - 1)
        self.assert_number(road.send(1, "the last"), MOST - 1)
        self.assert_flying(road, *range(MOST))
        self.assertEqual(road.text_of(MOST - 1), "the last")
        self.assertEqual(road.log()[-1], ("send", MOST - 1, 1, "the last"))

    def test_one_more_is_lost_at_once(self):
        road = filled(MOST)
        self.assert_number(road.send(1, "too much"), MOST)
        self.assert_flying(road, *range(MOST))
        self.assertIs(road.text_of(MOST), None)
        self.assertEqual(road.log()[-1], ("full", MOST, 1, "too much"))
        self.assertEqual(len(road.log()), MOST + 1)
        self.assert_number(road.send(0, "again"), MOST + 1)
        self.assertEqual(road.log()[-1], ("full", MOST + 1, 0, "again"))

    def test_one_more_behind_a_carry(self):
        for take_off in (Road.carry, Road.lose):
            road = filled(MOST)
            road.send(1, "too much")
            take_off(road, 3)
            self.assert_number(road.send(0, "room again"), MOST + 1)
            self.assertEqual(road.flying()[-1], (MOST + 1, 0))
            self.assertEqual(road.text_of(MOST + 1), "room again")
            self.assertEqual(road.log()[-1], ("send", MOST + 1, 0, "room again"))
            self.assert_number(road.send(0, "full again"), MOST + 2)
            self.assertEqual(road.log()[-1], ("full", MOST + 2, 0, "full again"))
            self.assertEqual(len(road.flying()), MOST)

    def test_doubling_with_one_place_left_and_with_none(self):
        road = filled(MOST - 1)
        self.assert_number(road.double(4), MOST - 1)
        self.assertEqual(road.flying()[-1], (MOST - 1, 0))
        self.assertEqual(road.text_of(MOST - 1), "text 4")
        self.assertEqual(road.log()[-1], ("double", 4, MOST - 1))
        self.assert_number(road.double(5), MOST)
        self.assert_flying(road, *range(MOST))
        self.assertIs(road.text_of(MOST), None)
        self.assertEqual(road.log()[MOST:], [("double", 5, MOST), ("full", MOST, 1, "text 5")])
        self.assert_number(road.send(0, "x"), MOST + 1)

    def test_a_spoilt_one_doubled_and_lost_at_once(self):
        road = filled(MOST)
        road.spoil(4, 0, "T")
        self.assert_number(road.double(4), MOST)
        self.assertEqual(road.log()[-2:], [("double", 4, MOST), ("full", MOST, 0, "Text 4")])
        self.assertEqual(len(road.flying()), MOST)


class TextOf(RoadCase):
    def test_in_flight_carried_lost_lost_at_once_and_never_given(self):
        road = filled(MOST)
        road.send(0, "too much")
        road.carry(10)
        road.lose(20)
        self.assertEqual(road.text_of(0), "text 0")
        self.assertEqual(road.text_of(199), "text 199")
        # Place 20 had number 21 behind the carry of number 10.
        self.assertEqual(road.text_of(20), "text 20")
        for number in (10, 21, MOST, MOST + 1, -1, FAR):
            self.assertIs(road.text_of(number), None)

    def test_by_number_not_by_place(self):
        road = road_of("a", "b", "c")
        road.turn(0, 2)
        self.assertEqual([road.text_of(number) for number in range(3)], ["a", "b", "c"])
        road.lose(0)
        self.assertEqual([road.text_of(number) for number in range(3)], ["a", "b", None])

    def test_as_it_is_then(self):
        road = road_of("abc")
        road.double(0)
        road.spoil(0, 1, "x")
        self.assertEqual((road.text_of(0), road.text_of(1)), ("axc", "abc"))


class Places(RoadCase):
    """What is no place is refused of each deed."""

    def deeds(self, road, place):
        yield road.carry, (place,)
        yield road.lose, (place,)
        yield road.double, (place,)
        yield road.spoil, (place, 0, "x")
        yield road.turn, (place, place)
        if road.flying():
            yield road.turn, (place, 0)
            yield road.turn, (0, place)

    def count(self):
        return len(list(self.deeds(road_of("a"), 0)))

    def test_no_places(self):
        for texts in ((), ("a",), ("a", "b", "c")):
            for place in (len(texts), len(texts) + 1, -1, -len(texts), -len(texts) - 1, FAR, -FAR) + NO_NUMBERS:
                if type(place) is int and 0 <= place < len(texts):
                    continue
                for which in range(self.count() if texts else self.count() - 2):
                    road = road_of(*texts)
                    method, arguments = list(self.deeds(road, place))[which]
                    with self.subTest(texts=texts, method=method.__name__, arguments=arguments):
                        self.assert_refused(NoPiece, road, method, *arguments)

    def test_a_place_that_was_one(self):
        for which in range(self.count()):
            road = road_of("a", "b")
            road.lose(0)
            method, arguments = list(self.deeds(road, 1))[which]
            self.assert_refused(NoPiece, road, method, *arguments)

    def test_no_piece_ahead_of_no_deed(self):
        for at, sign in ((9, "x"), (None, "x"), (0, "abc"), (0, "a"), (True, None), (-1, "")):
            for place in (1, -1, True, None, "0"):
                road = road_of("a")
                self.assert_refused(NoPiece, road, road.spoil, place, at, sign)
        road = road_of("ab")
        road.spoil(0, 0, "x")
        self.assert_refused(NoPiece, road, road.spoil, 1, 0, "y")

    def test_both_places_of_a_turn_are_looked_at_first(self):
        for place, other in ((0, 2), (2, 0), (2, 3), (-1, 0), (0, -1), (True, 0), (0, True), (None, 1), (1, None)):
            road = road_of("a", "b")
            self.assert_refused(NoPiece, road, road.turn, place, other)


class Carry(RoadCase):
    def test_first_middle_last(self):
        for place, left in ((0, (1, 2, 3)), (1, (0, 2, 3)), (3, (0, 1, 2))):
            road = road_of("a", "b", "c", "d")
            told = road.carry(place)
            self.assertIs(type(told), tuple)
            self.assertEqual(told, (place % 2, "abcd"[place]))
            self.assert_flying(road, *left)
            self.assertIs(road.text_of(place), None)
            self.assertEqual(road.log()[4:], [("carry", place, place % 2, "abcd"[place])])

    def test_as_often_as_there_are_pieces(self):
        road = road_of("a", "b")
        self.assertEqual([road.carry(0), road.carry(0)], [(0, "a"), (1, "b")])
        self.assertEqual(road.flying(), [])
        self.assert_refused(NoPiece, road, road.carry, 0)

    def test_what_was_spoilt_arrives_spoilt(self):
        road = road_of("abc")
        road.spoil(0, 0, "x")
        self.assertEqual(road.carry(0), (0, "xbc"))
        self.assertEqual(road.log()[-1], ("carry", 0, 0, "xbc"))


class Lose(RoadCase):
    def test_first_middle_last(self):
        for place, left in ((0, (1, 2)), (1, (0, 2)), (2, (0, 1))):
            road = road_of("a", "b", "c")
            self.assertIs(road.lose(place), None)
            self.assert_flying(road, *left)
            self.assertIs(road.text_of(place), None)
            self.assertEqual(road.log()[3:], [("lose", place)])

    def test_the_only_one(self):
        road = road_of("a")
        road.lose(0)
        self.assertEqual(road.flying(), [])
        self.assert_refused(NoPiece, road, road.lose, 0)


class Double(RoadCase):
    def test_first_middle_last(self):
        for place in range(3):
            road = road_of("a", "b", "c")
            self.assert_number(road.double(place), 3)
            self.assertEqual(road.flying(), [(0, 0), (1, 1), (2, 0), (3, place % 2)])
            self.assertEqual(road.text_of(3), "abc"[place])
            self.assertEqual(road.log()[3:], [("double", place, 3)])

    def test_each_goes_its_own_way(self):
        road = road_of("abc")
        road.double(0)
        road.lose(0)
        self.assertEqual(road.carry(0), (0, "abc"))

    def test_a_doubling_doubled(self):
        road = road_of("abc")
        road.double(0)
        self.assert_number(road.double(1), 2)
        self.assertEqual(road.text_of(2), "abc")
        self.assertEqual(road.log()[1:], [("double", 0, 1), ("double", 1, 2)])

    def test_of_a_spoilt_one(self):
        road = road_of("abc")
        road.spoil(0, 2, "x")
        self.assert_number(road.double(0), 1)
        self.assertEqual(road.text_of(1), "abx")
        self.assertEqual(road.log()[-1], ("double", 0, 1))
        # It is spoilt as that is: by no second sign.
        for place in (0, 1):
            self.assert_refused(NoDeed, road, road.spoil, place, 0, "y")

    def test_of_one_that_is_spoilt_later(self):
        road = road_of("abc")
        road.double(0)
        road.spoil(0, 2, "x")
        self.assertEqual((road.text_of(0), road.text_of(1)), ("abx", "abc"))
        road.spoil(1, 0, "y")
        self.assertEqual((road.text_of(0), road.text_of(1)), ("abx", "ybc"))
        for place in (0, 1):
            self.assert_refused(NoDeed, road, road.spoil, place, 1, "z")


class Turn(RoadCase):
    def test_two_places(self):
        for place, other, numbers in ((0, 1, (1, 0, 2, 3)), (0, 3, (3, 1, 2, 0)), (3, 0, (3, 1, 2, 0)),
                                      (2, 1, (0, 2, 1, 3))):
            road = road_of("a", "b", "c", "d")
            self.assertIs(road.turn(place, other), None)
            self.assert_flying(road, *numbers)
            self.assertEqual(road.log()[4:], [("turn", place, other)])
            self.assertEqual([road.carry(0) for number in numbers], [(number % 2, "abcd"[number]) for number in numbers])

    def test_of_one_with_itself(self):
        for place in range(3):
            road = road_of("a", "b", "c")
            self.assertIs(road.turn(place, place), None)
            self.assert_flying(road, 0, 1, 2)
            self.assertEqual(road.log()[3:], [("turn", place, place)])

    def test_the_log_has_the_numbers_that_stood_there_ahead_of_it(self):
        road = road_of("a", "b", "c", "d")
        road.lose(0)
        road.turn(0, 2)
        road.turn(0, 1)
        road.turn(2, 2)
        self.assertEqual(road.log()[5:], [("turn", 1, 3), ("turn", 3, 2), ("turn", 1, 1)])
        self.assert_flying(road, 2, 3, 1)

    def test_a_spoilt_one_stays_spoilt(self):
        road = road_of("abc", "def")
        road.spoil(0, 0, "x")
        road.turn(0, 1)
        self.assert_refused(NoDeed, road, road.spoil, 1, 1, "y")
        self.assertIs(road.spoil(0, 1, "y"), None)


class Spoil(RoadCase):
    def test_first_middle_and_last_place_of_the_text(self):
        for at, spoilt in ((0, "xbcd"), (1, "axcd"), (3, "abcx")):
            road = road_of("zzzz", "abcd", "zzzz")
            self.assertIs(road.spoil(1, at, "x"), None)
            self.assertEqual(road.text_of(1), spoilt)
            self.assertEqual(road.flying(), [(0, 0), (1, 1), (2, 0)])
            self.assertEqual(road.log()[3:], [("spoil", 1, spoilt)])
            self.assertEqual((road.text_of(0), road.text_of(2)), ("zzzz", "zzzz"))

    def test_of_the_first_and_the_last_piece(self):
        for place in (0, 2):
            road = road_of("a", "b", "c")
            road.spoil(place, 0, "~")
            self.assertEqual(road.text_of(place), "~")

    def test_a_text_of_most_signs(self):
        road = road_of("a" * 400)
        road.spoil(0, 399, "b")
        self.assertEqual(road.text_of(0), "a" * 399 + "b")

    def test_each_other_sign(self):
        for sign in SIGNS:
            road = road_of("a")
            if sign == "a":
                self.assert_refused(NoDeed, road, road.spoil, 0, 0, sign)
            else:
                road.spoil(0, 0, sign)
                self.assertEqual(road.text_of(0), sign)

    def test_no_places_of_the_text(self):
        for at in (4, 5, -1, -4, -5, FAR, -FAR) + NO_NUMBERS:
            with self.subTest(at=at):
                road = road_of("abcd")
                self.assert_refused(NoDeed, road, road.spoil, 0, at, "x")

    def test_no_other_sign(self):
        things = ("b", "%", "\t", "\n", "", "xy", "bb", True, False, None, 0, 1, 120, ("x",), ["x"], {}, b"x", object())
        for sign in things:
            with self.subTest(sign=sign):
                road = road_of("abcd")
                self.assert_refused(NoDeed, road, road.spoil, 0, 1, sign)

    def test_a_sign_that_stands_elsewhere(self):
        road = road_of("abcd")
        road.spoil(0, 1, "a")
        self.assertEqual(road.text_of(0), "aacd")

    def test_once_at_most(self):
        road = road_of("abcd", "abcd")
        road.spoil(0, 1, "x")
        for at, sign in ((1, "b"), (1, "y"), (0, "z"), (1, "x"), (9, "y"), (0, "")):
            self.assert_refused(NoDeed, road, road.spoil, 0, at, sign)
        road.spoil(1, 1, "x")
        self.assertEqual(road.text_of(1), "axcd")

    def test_a_refused_one_may_still_be_spoilt(self):
        road = road_of("abcd")
        for at, sign in ((1, "b"), (4, "x"), (0, "xy")):
            self.assert_refused(NoDeed, road, road.spoil, 0, at, sign)
        self.assertIs(road.spoil(0, 1, "x"), None)


class Log(RoadCase):
    def test_each_deed_in_order(self):
        road = Road()
        road.send(1, "abc")
        road.send(0, "def")
        road.double(0)
        road.spoil(0, 1, "x")
        road.turn(0, 2)
        road.double(2)
        road.lose(1)
        road.carry(1)
        road.turn(0, 0)
        road.carry(0)
        self.assertEqual(road.log(), [
            ("send", 0, 1, "abc"),
            ("send", 1, 0, "def"),
            ("double", 0, 2),
            ("spoil", 0, "axc"),
            ("turn", 0, 2),
            ("double", 0, 3),
            ("lose", 1),
            ("carry", 0, 1, "axc"),
            ("turn", 2, 2),
            ("carry", 2, 1, "abc"),
        ])
        self.assertIsInstance(road.log(), list)
        for entry in road.log():
            self.assertIs(type(entry), tuple)

    def test_as_it_was_behind_refusals(self):
        road = road_of("abc")
        kept = road.log()
        for refusal, method, arguments in (
                (NoPiece, road.send, (2, "a")), (NoPiece, road.send, (0, "")), (NoPiece, road.carry, (1,)),
                (NoPiece, road.lose, (1,)), (NoPiece, road.double, (1,)), (NoPiece, road.turn, (0, 1)),
                (NoPiece, road.spoil, (1, 0, "x")), (NoDeed, road.spoil, (0, 3, "x"))):
            with self.assertRaises(refusal):
                method(*arguments)
            self.assertEqual(road.log(), kept)


class Own(RoadCase):
    """Point [2]: what is told is the asker's own."""

    def test_changed_by_the_asker(self):
        road = road_of("a", "b", "c")
        for told in (road.flying(), road.log()):
            told.reverse()
            told.pop()
            told.append((9, 9))
        self.assertEqual(road.flying(), [(0, 0), (1, 1), (2, 0)])
        self.assertEqual(road.log(), [("send", 0, 0, "a"), ("send", 1, 1, "b"), ("send", 2, 0, "c")])
        self.assertEqual(road.carry(0), (0, "a"))
        for told in (road.flying(), road.log()):
            told.clear()
        self.assertEqual((len(road.flying()), len(road.log())), (2, 4))

    def test_not_changed_by_what_is_done_later(self):
        road = road_of("a", "b")
        flying = road.flying()
        log = road.log()
        road.send(0, "c")
        road.turn(0, 1)
        road.spoil(0, 0, "x")
        road.carry(0)
        self.assertEqual(flying, [(0, 0), (1, 1)])
        self.assertEqual(log, [("send", 0, 0, "a"), ("send", 1, 1, "b")])


class Drawn(unittest.TestCase):
    """Point [63], by a plain account of what should be on the road."""

    def setUp(self):
        self.road = Road()
        # number: [host, text as it was sent, text as it is now, is spoilt]
        self.pieces = {}
        self.order = []
        self.log = []

    def put_on(self, piece, entry):
        number = len(self.pieces)
        self.pieces[number] = piece
        is_kept = len(self.order) < MOST
        if entry[0] == "double" or is_kept:
            self.log.append(entry)
        if is_kept:
            self.order.append(number)
        else:
            self.log.append(("full", number, piece[0], piece[2]))
        return number

    def send(self, chance):
        host = chance.randint(0, 1)
        text = "".join([chance.choice(SIGNS) for place in range(chance.randint(1, 5))])
        number = len(self.pieces)
        self.assertEqual(self.road.send(host, text), number)
        self.put_on([host, text, text, False], ("send", number, host, text))

    def double(self, place):
        number = len(self.pieces)
        self.assertEqual(self.road.double(place), number)
        self.put_on(list(self.pieces[self.order[place]]), ("double", self.order[place], number))

    def carry(self, place):
        number = self.order.pop(place)
        host, sent, text, is_spoilt = self.pieces[number]
        self.assertEqual(self.road.carry(place), (host, text))
        self.log.append(("carry", number, host, text))
        others = [at for at in range(len(sent)) if sent[at] != text[at]]
        self.assertEqual((len(text), len(others)), (len(sent), 1 if is_spoilt else 0))

    def lose(self, place):
        self.road.lose(place)
        self.log.append(("lose", self.order.pop(place)))

    def turn(self, place, other):
        self.road.turn(place, other)
        self.log.append(("turn", self.order[place], self.order[other]))
        kept = self.order[place]
        self.order[place] = self.order[other]
        self.order[other] = kept

    def spoil(self, chance, place):
        piece = self.pieces[self.order[place]]
        at = chance.randrange(len(piece[2]))
        sign = chance.choice(SIGNS)
        if piece[3] or sign == piece[2][at]:
            with self.assertRaises(NoDeed):
                self.road.spoil(place, at, sign)
        else:
            self.road.spoil(place, at, sign)
            piece[2] = piece[2][:at] + sign + piece[2][at + 1:]
            piece[3] = True
            self.log.append(("spoil", self.order[place], piece[2]))

    def step(self, chance, growing):
        deed = chance.randint(0, 20)
        if deed <= growing or not self.order:
            self.send(chance)
            return
        place = chance.randrange(len(self.order))
        if deed <= 13:
            self.double(place)
        elif deed <= 15:
            self.carry(place)
        elif deed == 16:
            self.lose(place)
        elif deed <= 18:
            self.turn(place, chance.randrange(len(self.order)))
        else:
            self.spoil(chance, place)

    def check(self):
        self.assertEqual(self.road.flying(), [(number, self.pieces[number][0]) for number in self.order])
        self.assertLessEqual(len(self.road.flying()), MOST)
        for number in self.order[:5]:
            self.assertEqual(self.road.text_of(number), self.pieces[number][2])

    def test_drawn_deeds(self):
        for seed, growing in ((63, 4), (64, 8), (65, 12)):
            self.setUp()
            chance = random.Random(seed)
            for step in range(1500):
                self.step(chance, growing)
                self.check()
            self.assertEqual(self.road.log(), self.log)
            kinds = {entry[0] for entry in self.log}
            self.assertLessEqual({"send", "double", "carry", "lose", "turn", "spoil", "full"}, kinds)
            gone = [entry[1] for entry in self.log if entry[0] in ("carry", "lose", "full")]
            self.assertEqual(len(gone), len(set(gone)))
            self.assertEqual(set(gone) & set(self.order), set())
            self.assertEqual(set(gone) | set(self.order), set(self.pieces))

    def test_texts_of_pieces(self):
        road = Road()
        text = written(("data", 1, 2, 4, 17, "a b c"))
        road.send(1, text)
        self.assertEqual(road.carry(0), (1, text))


if __name__ == "__main__":
    unittest.main()
