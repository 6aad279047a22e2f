"""Points [10], [11], [13], [14]: pieces, and the texts they are written as."""

import copy
import unittest

from ferry.errors import NoPiece, Spoilt
from ferry.pieces import is_piece, read, written

SIGNS = "".join([chr(code) for code in range(32, 127) if code != 37])
LIFE = 10 ** 9
PLACE = 10 ** 6
EIGHT_SPANS = tuple([(10 * step, 10 * step + 5) for step in range(1, 9)])
NINE_SPANS = tuple([(10 * step, 10 * step + 5) for step in range(1, 10)])

PIECES = (
    ("hello", 3, 0),
    ("hello", 1, 1),
    ("hello", LIFE, LIFE),
    ("data", 1, 2, 4, 17, "a b c"),
    ("data", 1, 1, 0, 0, ""),
    ("data", 1, 1, 0, 0, " "),
    ("data", 1, 1, 0, 0, "   "),
    ("data", 2, 1, 7, 3, "a "),
    ("data", 2, 1, 7, 3, " a"),
    ("data", 2, 1, 7, 3, ":"),
    ("data", 2, 1, 7, 3, "3:a b 1234 0007"),
    ("data", 2, 1, 7, 3, "data 1 2 4 17 5:a b c 9630"),
    ("data", LIFE, LIFE, 999, PLACE - 40, SIGNS[:40]),
    ("data", LIFE, LIFE, 999, 0, SIGNS[40:80]),
    ("data", LIFE, LIFE, 999, 0, SIGNS[80:]),
    ("data", 1, 1, 999, PLACE, ""),
    ("end", 1, 2, 4, 60),
    ("end", 1, 1, 0, 0),
    ("end", LIFE, LIFE, 999, PLACE),
    ("answer", 1, 2, 4, 22, 70, ((25, 30), (40, 41))),
    ("answer", 1, 2, 4, 22, 70, ()),
    ("answer", 1, 2, 4, 22, 70, ((23, 24),)),
    ("answer", 1, 1, 0, 0, 0, EIGHT_SPANS),
    ("answer", 1, 1, 0, 0, 0, ((1, PLACE),)),
    ("answer", LIFE, LIFE, 999, PLACE + 1, PLACE + 200, ()),
)

NO_TUPLES = (None, True, False, 0, 1, 2.5, "", "hello", "hello 3 0 9909", [], ["hello", 3, 0], {}, {"hello": 3}, {1},
             b"hello", object(), tuple, iter(("hello", 3, 0)))


class Strange:
    """A thing that can't be compared or hashed."""

    def __eq__(self, other):
        raise RuntimeError("compared")

    def __hash__(self):
        raise RuntimeError("hashed")


NO_NUMBERS = (True, False, None, "1", "", 1.0, [1], (1,), b"1", Strange())


def checked(body):
    """The body with the check behind it, reckoned apart from the program."""
    number = 7
    for sign in body:
        number = (number * 31 + ord(sign) - 32) % 9973
    return "%s %04d" % (body, number)


def with_part(piece, place, part):
    return piece[:place] + (part,) + piece[place + 1:]


class IsPiece(unittest.TestCase):
    def assert_bounds(self, piece, place, least, most):
        for number in (least, least + 1, most - 1, most):
            self.assertIs(is_piece(with_part(piece, place, number)), True, (piece, place, number))
        for number in (least - 1, most + 1, -most, 10 * most, 10 ** 5000):
            self.assertIs(is_piece(with_part(piece, place, number)), False, (piece, place))

    def test_ordinary_pieces(self):
        for piece in PIECES:
            with self.subTest(piece):
                self.assertIs(is_piece(piece), True)

    def test_the_lives_of_a_hello(self):
        self.assert_bounds(("hello", 1, 1), 1, 1, LIFE)
        self.assert_bounds(("hello", 1, 1), 2, 0, LIFE)

    def test_lives_and_streams_of_the_others(self):
        for piece in (("data", 1, 1, 0, 0, "ab"), ("end", 1, 1, 0, 0), ("answer", 1, 1, 0, 0, 0, ((1, 2),))):
            self.assert_bounds(piece, 1, 1, LIFE)
            self.assert_bounds(piece, 2, 1, LIFE)
            self.assert_bounds(piece, 3, 0, 999)

    def test_the_place_of_data_and_of_an_end(self):
        self.assert_bounds(("data", 1, 1, 0, 0, ""), 4, 0, PLACE)
        self.assert_bounds(("end", 1, 1, 0, 0), 4, 0, PLACE)

    def test_place_and_signs_of_data_together(self):
        for size in (1, 2, 39, 40):
            with self.subTest(size):
                self.assert_bounds(("data", 1, 1, 0, 0, "x" * size), 4, 0, PLACE - size)

    def test_how_many_signs(self):
        for size in range(41):
            self.assertIs(is_piece(("data", 1, 1, 0, 0, "x" * size)), True, size)
        for size in (41, 42, 80, 400, 100000):
            self.assertIs(is_piece(("data", 1, 1, 0, 0, "x" * size)), False, size)

    def test_signs_of_data(self):
        for sign in SIGNS:
            self.assertIs(is_piece(("data", 1, 1, 0, 0, sign)), True, sign)
        for wrong in ("\t", "\n"):
            for place in range(4):
                signs = "a b"[:place] + wrong + "a b"[place:]
                self.assertIs(is_piece(("data", 1, 1, 0, 0, signs)), False, signs)
        for wrong in (None, 0, 5, True, ["a"], ("a",), b"a", {}, Strange()):
            self.assertIs(is_piece(("data", 1, 1, 0, 0, wrong)), False)

    def test_come_and_limit(self):
        self.assert_bounds(("answer", 1, 1, 0, 0, 0, ()), 4, 0, PLACE + 1)
        self.assert_bounds(("answer", 1, 1, 0, 0, 0, ()), 5, 0, PLACE + 200)

    def test_come_limit_and_spans_are_free_of_one_another(self):
        self.assertIs(is_piece(("answer", 1, 1, 0, 50, 0, ())), True)
        self.assertIs(is_piece(("answer", 1, 1, 0, PLACE + 1, 0, ())), True)
        self.assertIs(is_piece(("answer", 1, 1, 0, 0, PLACE + 200, ())), True)
        self.assertIs(is_piece(("answer", 1, 1, 0, 10, 5, ((20, 30),))), True)
        self.assertIs(is_piece(("answer", 1, 1, 0, 10, 25, ((20, 30), (40, 50)))), True)

    def test_truths_and_other_things_in_the_stead_of_a_number(self):
        for piece in (("hello", 1, 1), ("data", 1, 1, 1, 1, "ab"), ("end", 1, 1, 1, 1),
                      ("answer", 1, 1, 1, 1, 1, ((3, 4),))):
            self.assertIs(is_piece(piece), True)
            for place in range(1, len(piece)):
                if isinstance(piece[place], int):
                    for wrong in NO_NUMBERS:
                        self.assertIs(is_piece(with_part(piece, place, wrong)), False, (piece, place))

    def test_a_part_too_few_or_too_many(self):
        for piece in PIECES:
            for size in range(len(piece)):
                self.assertIs(is_piece(piece[:size]), False, piece[:size])
                self.assertIs(is_piece(piece[:size] + piece[size + 1:]), False, (piece, size))
            for more in (0, 1, "", "a", (), ((3, 4),), None):
                self.assertIs(is_piece(piece + (more,)), False, (piece, more))
            self.assertIs(is_piece(piece + piece), False)

    def test_a_list_in_the_stead_of_the_tuple(self):
        for piece in PIECES:
            self.assertIs(is_piece(list(piece)), False, piece)

    def test_another_kind(self):
        for piece in PIECES:
            for kind in ("", "Hello", "DATA", "ends", "answers", "dat", " data", "data ", "other", None, 0, 1, True,
                         ("data",), ["data"], {}, b"data", Strange()):
                self.assertIs(is_piece(with_part(piece, 0, kind)), False)

    def test_the_kinds_changed_about(self):
        for piece in (("hello", 1, 1), ("data", 1, 1, 1, 1, "ab"), ("end", 1, 1, 1, 1), ("answer", 1, 1, 1, 1, 1, ())):
            for kind in ("hello", "data", "end", "answer"):
                self.assertIs(is_piece(with_part(piece, 0, kind)), kind == piece[0])

    def test_things_that_are_no_tuples(self):
        for place, thing in enumerate(NO_TUPLES + (Strange(),)):
            with self.subTest(place=place):
                self.assertIs(is_piece(thing), False)

    def test_the_empty_tuple(self):
        self.assertIs(is_piece(()), False)
        self.assertIs(is_piece(((),)), False)

    def test_what_is_handed_in_is_the_same_behind_it(self):
        for thing in (["hello", 3, 0], ("answer", 1, 2, 4, 22, 70, [(25, 30)]), ("answer", 1, 2, 4, 22, 70, ([25, 30],))):
            kept = copy.deepcopy(thing)
            self.assertIs(is_piece(thing), False)
            self.assertEqual(thing, kept)
            self.assertIs(is_piece(thing), False)


class Spans(unittest.TestCase):
    def assert_spans(self, is_right, come, spans):
        self.assertIs(is_piece(("answer", 1, 2, 4, come, 70, spans)), is_right, (come, spans))

    def test_at_most_eight(self):
        for size in range(9):
            self.assert_spans(True, 0, EIGHT_SPANS[:size])
        self.assert_spans(False, 0, NINE_SPANS)
        self.assert_spans(False, 0, tuple([(2 * step, 2 * step + 1) for step in range(1, 1000)]))

    def test_spans_that_touch_or_lie_over_one_another(self):
        self.assert_spans(True, 0, ((2, 4), (5, 6)))
        self.assert_spans(False, 0, ((2, 4), (4, 6)))
        self.assert_spans(False, 0, ((2, 4), (3, 6)))
        self.assert_spans(False, 0, ((2, 8), (3, 6)))
        self.assert_spans(False, 0, ((2, 4), (2, 4)))
        self.assert_spans(False, 0, ((2, 4), (6, 8), (8, 9)))

    def test_spans_out_of_order(self):
        self.assert_spans(False, 0, ((5, 6), (2, 4)))
        self.assert_spans(False, 0, ((2, 4), (8, 9), (5, 6)))

    def test_empty_spans_and_the_wrong_way_round(self):
        self.assert_spans(True, 0, ((5, 6),))
        self.assert_spans(False, 0, ((5, 5),))
        self.assert_spans(False, 0, ((6, 5),))
        self.assert_spans(False, 0, ((2, 3), (5, 5)))
        self.assert_spans(False, 0, ((2, 3), (6, 5)))

    def test_the_first_is_above_come(self):
        self.assert_spans(True, 22, ((23, 24),))
        self.assert_spans(False, 22, ((22, 24),))
        self.assert_spans(False, 22, ((21, 24),))
        self.assert_spans(False, 22, ((2, 4), (25, 26)))
        self.assert_spans(False, 0, ((0, 1),))

    def test_begins_and_ends_are_places(self):
        self.assert_spans(True, 0, ((1, PLACE),))
        self.assert_spans(True, 0, ((PLACE - 1, PLACE),))
        self.assert_spans(True, PLACE - 2, ((PLACE - 1, PLACE),))
        self.assert_spans(False, 0, ((1, PLACE + 1),))
        self.assert_spans(False, 0, ((PLACE, PLACE + 1),))
        self.assert_spans(False, 0, ((PLACE + 1, PLACE + 2),))
        self.assert_spans(False, 0, ((-1, 2),))
        self.assert_spans(False, PLACE, ((PLACE, PLACE),))
        self.assert_spans(False, PLACE + 1, ((PLACE, PLACE + 1),))

    def test_spans_that_are_no_tuple(self):
        for wrong in ([], [(25, 30)], None, 0, True, "", "-", "25-30", {}, {(25, 30): True}, {(25, 30)}, Strange()):
            self.assert_spans(False, 22, wrong)

    def test_a_span_that_is_no_tuple(self):
        for wrong in ([25, 30], None, 25, True, "ab", "25-30", {25: 1, 30: 1}, {25, 30}, Strange()):
            self.assert_spans(False, 22, (wrong,))
            self.assert_spans(False, 22, ((23, 24), wrong))

    def test_a_span_that_is_no_pair(self):
        for wrong in ((), (25,), (25, 30, 35), (25, 30, None), ((25, 30),)):
            self.assert_spans(False, 22, (wrong,))
            self.assert_spans(False, 22, ((23, 24), wrong))

    def test_a_bare_pair_in_the_stead_of_the_row(self):
        self.assert_spans(False, 22, (25, 30))

    def test_parts_that_are_no_numbers(self):
        for wrong in NO_NUMBERS:
            self.assert_spans(False, 0, ((wrong, 30),))
            self.assert_spans(False, 0, ((25, wrong),))
            self.assert_spans(False, 0, ((2, 3), (25, wrong)))
        self.assert_spans(True, 0, ((1, 2),))
        self.assert_spans(False, 0, ((True, 2),))


class Written(unittest.TestCase):
    def test_the_texts_of_the_document(self):
        self.assertEqual(written(("hello", 3, 0)), checked("hello 3 0"))
        self.assertEqual(written(("data", 1, 2, 4, 17, "a b c")), checked("data 1 2 4 17 5:a b c"))
        self.assertEqual(written(("end", 1, 2, 4, 60)), checked("end 1 2 4 60"))
        self.assertEqual(written(("answer", 1, 2, 4, 22, 70, ((25, 30), (40, 41)))),
                         checked("answer 1 2 4 22 70 25-30,40-41"))

    def test_texts_as_they_stand(self):
        self.assertEqual(written(("hello", 3, 0)), "hello 3 0 9909")
        self.assertEqual(written(("data", 1, 2, 4, 17, "a b c")), "data 1 2 4 17 5:a b c 9630")
        self.assertEqual(written(("end", 1, 2, 4, 60)), "end 1 2 4 60 5994")
        self.assertEqual(written(("answer", 1, 2, 4, 22, 70, ((25, 30), (40, 41)))),
                         "answer 1 2 4 22 70 25-30,40-41 6734")

    def test_none_one_and_many_spans(self):
        for spans, word in (((), "-"), (((25, 30),), "25-30"), (((23, 24), (26, 27), (30, 40)), "23-24,26-27,30-40"),
                            (((30, PLACE),), "30-1000000")):
            with self.subTest(word):
                self.assertEqual(written(("answer", 1, 2, 4, 22, 70, spans)), checked("answer 1 2 4 22 70 " + word))
        word = "10-15,20-25,30-35,40-45,50-55,60-65,70-75,80-85"
        self.assertEqual(written(("answer", 1, 2, 4, 0, 0, EIGHT_SPANS)), checked("answer 1 2 4 0 0 " + word))

    def test_signs(self):
        for signs, word in (("", "0:"), (" ", "1: "), ("a", "1:a"), (":", "1::"), ("::", "2:::"), ("  a ", "4:  a "),
                            ("12 34", "5:12 34"), ("3:abc", "5:3:abc"), ("0000", "4:0000"), ("x" * 40, "40:" + "x" * 40),
                            (SIGNS[:40], "40:" + SIGNS[:40]), (SIGNS[54:], "40:" + SIGNS[54:])):
            with self.subTest(word):
                self.assertEqual(written(("data", 1, 2, 4, 17, signs)), checked("data 1 2 4 17 " + word))

    def test_the_bounds(self):
        self.assertEqual(written(("data", LIFE, LIFE, 999, PLACE, "")),
                         checked("data 1000000000 1000000000 999 1000000 0:"))
        self.assertEqual(written(("answer", LIFE, LIFE, 0, PLACE + 1, PLACE + 200, ())),
                         checked("answer 1000000000 1000000000 0 1000001 1000200 -"))
        self.assertEqual(written(("end", 1, 1, 0, 0)), checked("end 1 1 0 0"))

    def test_the_check_has_four_figures(self):
        self.assertEqual(written(("hello", 4, 0)), "hello 4 0 0897")
        self.assertEqual(written(("hello", 88, 0)), "hello 88 0 0014")
        self.assertEqual(written(("hello", 522, 0)), "hello 522 0 0005")
        self.assertEqual(written(("hello", 918, 0)), "hello 918 0 0000")

    def test_no_piece(self):
        wrong = NO_TUPLES + ((), ("hello",), ("hello", 0, 0), ("hello", 1, -1), ("hello", True, 0), ("hello", 3, False),
                             ("hello", LIFE + 1, 0), ("hello", 3, 0, 0), ("data", 1, 2, 4, 17, "x" * 41),
                             ("data", 1, 2, 4, 17, "a\tb"), ("data", 1, 2, 4, PLACE, "x"), ("data", 1, 2, 4, 17, 5),
                             ("data", 1, 0, 4, 17, ""), ("end", 1, 2, 1000, 0), ("end", 1, 2, 4, PLACE + 1),
                             ("end", 1, 2, 4, "60"), ("answer", 1, 2, 4, 22, 70, NINE_SPANS),
                             ("answer", 1, 2, 4, 22, 70, [(25, 30)]), ("answer", 1, 2, 4, 22, 70, ((22, 30),)),
                             ("answer", 1, 2, 4, 22, 70), ("other", 1, 2), Strange(), (Strange(), 3, 0))
        for place, thing in enumerate(wrong):
            with self.subTest(place=place):
                with self.assertRaises(NoPiece):
                    written(thing)

    def test_what_is_handed_in_is_the_same_and_it_tells_the_same(self):
        for piece in PIECES:
            kept = copy.deepcopy(piece)
            self.assertEqual(written(piece), written(piece))
            self.assertEqual(piece, kept)


class Read(unittest.TestCase):
    def assert_spoilt(self, text):
        with self.assertRaises(Spoilt, msg=repr(text)):
            read(text)

    def assert_same(self, told, piece):
        self.assertEqual(told, piece)
        self.assertEqual(repr(told), repr(piece))

    def test_it_leads_back(self):
        for piece in PIECES:
            with self.subTest(piece):
                self.assert_same(read(written(piece)), piece)

    def test_texts_as_they_stand(self):
        self.assert_same(read("hello 3 0 9909"), ("hello", 3, 0))
        self.assert_same(read("hello 918 0 0000"), ("hello", 918, 0))
        self.assert_same(read("data 1 2 4 17 5:a b c 9630"), ("data", 1, 2, 4, 17, "a b c"))
        self.assert_same(read("end 1 2 4 60 5994"), ("end", 1, 2, 4, 60))
        self.assert_same(read("answer 1 2 4 22 70 25-30,40-41 6734"),
                         ("answer", 1, 2, 4, 22, 70, ((25, 30), (40, 41))))

    def test_one_sign_another_at_any_place(self):
        for piece in PIECES:
            text = written(piece)
            for place in range(len(text)):
                for sign in SIGNS + "\t\n":
                    if sign != text[place]:
                        self.assert_spoilt(text[:place] + sign + text[place + 1:])

    def test_a_sign_less(self):
        for piece in PIECES:
            text = written(piece)
            for place in range(len(text)):
                shorter = text[:place] + text[place + 1:]
                self.assert_spoilt(shorter)
                self.assert_spoilt(text[:place])

    def test_a_sign_more(self):
        for text in ("hello 3 0 9909", "data 1 2 4 17 5:a b c 9630", "answer 1 2 4 22 70 25-30,40-41 6734"):
            for place in range(len(text) + 1):
                for sign in SIGNS + "\t\n":
                    self.assert_spoilt(text[:place] + sign + text[place:])

    def test_noughts_ahead(self):
        for body in ("hello 03 0", "hello 3 00", "hello 3 01", "data 01 2 4 17 5:a b c", "data 1 02 4 17 5:a b c",
                     "data 1 2 04 17 5:a b c", "data 1 2 4 017 5:a b c", "data 1 2 4 17 05:a b c", "data 1 2 4 17 00:",
                     "end 01 2 4 60", "end 1 2 4 060", "answer 1 2 4 022 70 -", "answer 1 2 4 22 070 -",
                     "answer 1 2 4 22 70 025-30", "answer 1 2 4 22 70 25-030"):
            self.assert_spoilt(checked(body))

    def test_blanks(self):
        for body in ("hello  3 0", "hello 3  0", "hello 3 0 ", " hello 3 0", "data 1 2 4 17  5:a b c",
                     "data 1  2 4 17 5:a b c", "data 1 2 4 17 5: a b c", "data 1 2 4 17 5 :a b c",
                     "data 1 2 4 17 5:a b c ", "end 1 2 4  60", "answer 1 2 4 22 70  -", "answer 1 2 4 22 70 - ",
                     "answer 1 2 4 22 70 25-30, 40-41", "answer 1 2 4 22 70 25 -30"):
            self.assert_spoilt(checked(body))
        for text in (" hello 3 0 9909", "hello 3 0 9909 ", "hello 3 0  9909", "hello 3 09909", "hello 3 0\t9909",
                     "hello 3 0 9909\n"):
            self.assert_spoilt(text)

    def test_a_wrong_count_of_signs(self):
        for count in ("", "0", "4", "6", "05", "+5", "-5", "5 ", "40", "a", "5:"):
            self.assert_spoilt(checked("data 1 2 4 17 " + count + ":a b c"))
        for body in ("data 1 2 4 17 a b c", "data 1 2 4 17 5", "data 1 2 4 17 0", "data 1 2 4 17 :", "data 1 2 4 17 1:",
                     "data 1 2 4 17 ", "data 1 2 4 17", "data 1 2 4 17 5a b c:"):
            self.assert_spoilt(checked(body))

    def test_a_wrong_check(self):
        for check in ("9908", "9910", "0000", "", "990", "99090", "09909", "+909", "9909 9909"):
            self.assert_spoilt("hello 3 0 " + check)
        for text in ("hello 3 0", "hello 4 0 897", "hello 4 0 00897", "hello 918 0 0", "hello 918 0 9973",
                     "hello 522 0 9978", "hello 522 0 5"):
            self.assert_spoilt(text)

    def test_pieces_out_of_their_bounds_with_a_right_check(self):
        for body in ("hello 0 0", "hello 1000000001 0", "hello 1 1000000001", "hello -1 0", "hello 1",
                     "hello 1 1 1", "data 0 2 4 17 1:a", "data 1 0 4 17 1:a", "data 1 2 1000 17 1:a",
                     "data 1 2 4 1000000 1:a", "data 1 2 4 1000001 0:", "data 1 2 4 17 41:" + "x" * 41,
                     "end 0 1 0 0", "end 1 0 0 0", "end 1 2 1000 60", "end 1 2 4 1000001", "end 1 2 4", "end 1 2 4 60 1",
                     "answer 0 2 4 22 70 -", "answer 1 0 4 22 70 -", "answer 1 2 1000 22 70 -",
                     "answer 1 2 4 1000002 70 -", "answer 1 2 4 22 1000201 -", "answer 1 2 4 22 70 22-30",
                     "answer 1 2 4 22 70 25-25", "answer 1 2 4 22 70 30-25", "answer 1 2 4 22 70 25-30,30-31",
                     "answer 1 2 4 22 70 40-41,25-30", "answer 1 2 4 22 70 25-1000001",
                     "answer 1 2 4 0 0 1-2,3-4,5-6,7-8,9-10,11-12,13-14,15-16,17-18",
                     "hello " + "1" * 5000 + " 0", "end 1 2 4 " + "9" * 5000):
            self.assert_spoilt(checked(body))

    def test_other_forms_with_a_right_check(self):
        for body in ("", " ", "hello", "data", "end", "answer", "other 1 2", "Hello 3 0", "HELLO 3 0", "3 0 hello",
                     "hello a b", "hello 3 -", "hello 3,0", "end 1 2 4 -", "answer 1 2 4 22 70",
                     "answer 1 2 4 22 70 ", "answer 1 2 4 22 70 25", "answer 1 2 4 22 70 25-", "answer 1 2 4 22 70 -30",
                     "answer 1 2 4 22 70 25-30-35", "answer 1 2 4 22 70 25-30,", "answer 1 2 4 22 70 ,25-30",
                     "answer 1 2 4 22 70 25-30;40-41", "answer 1 2 4 22 70 --", "answer 1 2 4 22 70 25-30,-",
                     "answer 1 2 4 22 70 - -", "answer 1 2 4 22 70 0", "answer 1 2 4 22 70 ()"):
            self.assert_spoilt(checked(body))

    def test_signs_of_none_with_a_right_check(self):
        for body in ("data 1 2 4 17 1:\t", "data 1 2 4 17 1:\n", "hello\t3 0", "hello 3\n0"):
            self.assert_spoilt(checked(body))

    def test_the_empty_text_and_texts_without_words(self):
        for text in ("", " ", "  ", "0007", " 0007", "\n", "\t", "9909", "hello", "x" * 100000, " " * 100000):
            self.assert_spoilt(text)

    def test_what_is_no_text(self):
        for place, thing in enumerate((None, True, False, 0, 9909, 1.5, [], ["hello 3 0 9909"], (), ("hello", 3, 0), {},
                                       b"hello 3 0 9909", object(), Strange())):
            with self.subTest(place=place):
                self.assert_spoilt(thing)

    def test_asked_again_it_tells_the_same(self):
        thing = ["hello 3 0 9909"]
        self.assert_spoilt(thing)
        self.assertEqual(thing, ["hello 3 0 9909"])
        for piece in PIECES:
            text = written(piece)
            self.assert_same(read(text), read(text))


if __name__ == "__main__":
    unittest.main()
