"""Points [20] and [21]: rows of spans."""

import itertools
import random
import unittest

from ferry.errors import NoSpan
from ferry.spans import added, covers, cut, holes, size_of

FAR = 10 ** 12
UNIVERSE = 8

ROW = ((2, 4), (6, 9), (12, 13))


def row_of(places):
    """The row of spans of a set of places, by going through them one by one."""
    spans = []
    for place in sorted(places):
        if spans and spans[-1][1] == place:
            spans[-1] = (spans[-1][0], place + 1)
        else:
            spans.append((place, place + 1))
    return tuple(spans)


def every_set():
    for bits in itertools.product((False, True), repeat=UNIVERSE):
        yield {place for place in range(UNIVERSE) if bits[place]}


def every_stretch():
    for begin in range(UNIVERSE + 2):
        for end in range(begin, UNIVERSE + 2):
            yield begin, end


class RowCase(unittest.TestCase):
    def assert_row(self, told, row):
        """The same row, and made of tuples and numbers alone."""
        self.assertEqual(told, row)
        self.assertEqual(repr(told), repr(row))

    def assert_refused(self, function, *arguments):
        with self.assertRaises(NoSpan, msg=arguments):
            function(*arguments)


class Added(RowCase):
    def test_to_no_span_at_all(self):
        self.assert_row(added((), 3, 5), ((3, 5),))
        self.assert_row(added((), 0, 1), ((0, 1),))
        self.assert_row(added((), 0, FAR), ((0, FAR),))

    def test_ahead_of_all_behind_all_and_between(self):
        self.assert_row(added(ROW, 0, 1), ((0, 1), (2, 4), (6, 9), (12, 13)))
        self.assert_row(added(ROW, 14, 20), ((2, 4), (6, 9), (12, 13), (14, 20)))
        self.assert_row(added(ROW, 10, 11), ((2, 4), (6, 9), (10, 11), (12, 13)))

    def test_that_touch_become_one(self):
        self.assert_row(added(ROW, 0, 2), ((0, 4), (6, 9), (12, 13)))
        self.assert_row(added(ROW, 4, 5), ((2, 5), (6, 9), (12, 13)))
        self.assert_row(added(ROW, 5, 6), ((2, 4), (5, 9), (12, 13)))
        self.assert_row(added(ROW, 4, 6), ((2, 9), (12, 13)))
        self.assert_row(added(ROW, 13, 20), ((2, 4), (6, 9), (12, 20)))

    def test_within_one(self):
        for begin, end in ((6, 9), (6, 7), (7, 8), (8, 9), (2, 4), (12, 13)):
            self.assert_row(added(ROW, begin, end), ROW)

    def test_over_one_in_part(self):
        self.assert_row(added(ROW, 5, 7), ((2, 4), (5, 9), (12, 13)))
        self.assert_row(added(ROW, 8, 10), ((2, 4), (6, 10), (12, 13)))
        self.assert_row(added(ROW, 5, 10), ((2, 4), (5, 10), (12, 13)))

    def test_over_several(self):
        self.assert_row(added(ROW, 3, 7), ((2, 9), (12, 13)))
        self.assert_row(added(ROW, 3, 12), ((2, 13),))
        self.assert_row(added(ROW, 0, 20), ((0, 20),))
        self.assert_row(added(ROW, 1, 11), ((1, 11), (12, 13)))

    def test_empty_stretches_add_nothing(self):
        for place in tuple(range(16)) + (FAR,):
            self.assert_row(added(ROW, place, place), ROW)
            self.assert_row(added((), place, place), ())
        self.assert_row(added(((2, 4), (5, 6)), 4, 4), ((2, 4), (5, 6)))

    def test_distant_places(self):
        row = added(((0, 1),), FAR - 1, FAR)
        self.assert_row(row, ((0, 1), (FAR - 1, FAR)))
        self.assert_row(added(row, 1, FAR - 1), ((0, FAR),))
        self.assert_row(added(row, 5, FAR - 2), ((0, 1), (5, FAR - 2), (FAR - 1, FAR)))

    def test_refused(self):
        for row in ((), ROW):
            for begin, end in ((5, 4), (1, 0), (FAR, 0), (-1, 0), (-1, 5), (-1, -1), (-5, -3), (-1, -2), (0, -1),
                               (-FAR, FAR), (3, 2)):
                self.assert_refused(added, row, begin, end)


class Holes(RowCase):
    def test_of_no_span_at_all(self):
        self.assert_row(holes((), 3, 5), ((3, 5),))
        self.assert_row(holes((), 0, FAR), ((0, FAR),))

    def test_between_ahead_and_behind(self):
        self.assert_row(holes(ROW, 0, 20), ((0, 2), (4, 6), (9, 12), (13, 20)))
        self.assert_row(holes(ROW, 2, 13), ((4, 6), (9, 12)))
        self.assert_row(holes(ROW, 0, 1), ((0, 1),))
        self.assert_row(holes(ROW, 13, 14), ((13, 14),))
        self.assert_row(holes(ROW, 20, 30), ((20, 30),))

    def test_begin_and_end_within_spans(self):
        self.assert_row(holes(ROW, 3, 7), ((4, 6),))
        self.assert_row(holes(ROW, 3, 6), ((4, 6),))
        self.assert_row(holes(ROW, 4, 6), ((4, 6),))
        self.assert_row(holes(ROW, 5, 5 + 1), ((5, 6),))
        self.assert_row(holes(ROW, 7, 11), ((9, 11),))

    def test_none(self):
        for begin, end in ((2, 4), (6, 9), (7, 8), (12, 13)):
            self.assert_row(holes(ROW, begin, end), ())

    def test_empty_stretches_have_none(self):
        for place in tuple(range(16)) + (FAR,):
            self.assert_row(holes(ROW, place, place), ())
            self.assert_row(holes((), place, place), ())

    def test_distant_places(self):
        row = ((5, 6), (FAR - 1, FAR))
        self.assert_row(holes(row, 0, FAR), ((0, 5), (6, FAR - 1)))
        self.assert_row(holes(row, FAR - 2, FAR), ((FAR - 2, FAR - 1),))

    def test_refused(self):
        for row in ((), ROW):
            for begin, end in ((5, 4), (1, 0), (FAR, 0), (-1, 0), (-1, 5), (-1, -1), (-5, -3), (-1, -2), (0, -1),
                               (-FAR, FAR)):
                self.assert_refused(holes, row, begin, end)


class Cut(RowCase):
    def test_at_ahead_of_and_behind_each_end(self):
        expected = {0: ROW, 1: ROW, 2: ROW, 3: ((3, 4), (6, 9), (12, 13)), 4: ((6, 9), (12, 13)),
                    5: ((6, 9), (12, 13)), 6: ((6, 9), (12, 13)), 7: ((7, 9), (12, 13)), 8: ((8, 9), (12, 13)),
                    9: ((12, 13),), 10: ((12, 13),), 11: ((12, 13),), 12: ((12, 13),), 13: (), 14: (), FAR: ()}
        for begin, row in expected.items():
            self.assert_row(cut(ROW, begin), row)

    def test_of_no_span_at_all(self):
        for begin in (0, 1, FAR):
            self.assert_row(cut((), begin), ())

    def test_distant_places(self):
        self.assert_row(cut(((0, FAR),), FAR - 1), ((FAR - 1, FAR),))
        self.assert_row(cut(((0, FAR),), FAR), ())

    def test_refused(self):
        for row in ((), ROW):
            for begin in (-1, -2, -FAR):
                self.assert_refused(cut, row, begin)


class CoversAndSize(unittest.TestCase):
    def test_at_ahead_of_and_behind_each_end(self):
        among = (2, 3, 6, 7, 8, 12)
        for place in range(16):
            self.assertIs(covers(ROW, place), place in among, place)

    def test_below_nought_and_far(self):
        for row in ((), ((0, 5),), ROW, ((0, FAR),)):
            for place in (-1, -2, -FAR):
                self.assertIs(covers(row, place), False)
        self.assertIs(covers(((0, FAR),), FAR - 1), True)
        self.assertIs(covers(((0, FAR),), FAR), False)
        self.assertIs(covers(((FAR - 1, FAR),), FAR - 2), False)

    def test_no_span_at_all(self):
        for place in (0, 1, FAR):
            self.assertIs(covers((), place), False)

    def test_sizes(self):
        for row, size in (((), 0), (((0, 1),), 1), (ROW, 6), (((0, FAR),), FAR), (((3, 5), (FAR - 4, FAR)), 6)):
            self.assertEqual(size_of(row), size)


class AllSmallRows(RowCase):
    """Each row of a few places and each stretch, held to sets of places."""

    def test_added_and_holes(self):
        for places in every_set():
            row = row_of(places)
            for begin, end in every_stretch():
                stretch = set(range(begin, end))
                self.assert_row(added(row, begin, end), row_of(places | stretch))
                self.assert_row(holes(row, begin, end), row_of(stretch - places))

    def test_cut_covers_and_size(self):
        for places in every_set():
            row = row_of(places)
            self.assertEqual(size_of(row), len(places))
            for place in range(UNIVERSE + 2):
                self.assertIs(covers(row, place), place in places)
                self.assert_row(cut(row, place), row_of({other for other in places if other >= place}))


class Together(RowCase):
    def test_any_order_comes_to_the_same(self):
        stretches = ((0, 2), (2, 3), (5, 9), (7, 7), (8, 12), (20, 21))
        for order in itertools.permutations(stretches):
            row = ()
            for begin, end in order:
                row = added(row, begin, end)
            self.assert_row(row, ((0, 3), (5, 12), (20, 21)))

    def test_long_rows(self):
        chance = random.Random(20)
        for around in (0, FAR - 4000):
            stretches = [(2 * step + around, 2 * step + around + 1) for step in range(2000)]
            chance.shuffle(stretches)
            row = ()
            for begin, end in stretches:
                row = added(row, begin, end)
            self.assert_row(row, tuple(sorted(stretches)))
            self.assertEqual(size_of(row), 2000)
            self.assert_row(added(row, around, around + 4000), ((around, around + 4000),))
            self.assertEqual(size_of(holes(row, around, around + 4000)), 2000)

    def test_what_is_handed_in_is_as_it_was(self):
        row = ROW
        for function, arguments in ((added, (3, 7)), (added, (4, 4)), (holes, (0, 20)), (cut, (7,)), (covers, (3,)),
                                    (size_of, ())):
            first = function(row, *arguments)
            self.assertEqual(function(row, *arguments), first)
            self.assert_row(row, ((2, 4), (6, 9), (12, 13)))


if __name__ == "__main__":
    unittest.main()
