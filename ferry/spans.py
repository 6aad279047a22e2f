"""Rows of spans: tuples of pairs (begin, end), which stand for the places from each begin up to its end."""

from ferry.errors import NoSpan

BEGIN = 0
END = 1


# Halving, as a row may be long and is asked for each stretch that comes.
def count_below(spans, side, place):
    """How many spans have their begin, or their end, below a place."""
    low = 0
    high = len(spans)
    while low < high:
        middle = (low + high) // 2
        if spans[middle][side] < place:
            low = middle + 1
        else:
            high = middle
    return low


def check_begin(begin):
    if begin < 0:
        raise NoSpan("no place is below nought")


def check_stretch(begin, end):
    check_begin(begin)
    if begin > end:
        raise NoSpan("a stretch doesn't end ahead of its begin")


def added(spans, begin, end):
    check_stretch(begin, end)
    if begin == end:
        return spans
    # Spans that only touch the stretch are drawn in too: two that touch are one.
    first = count_below(spans, END, begin)
    behind = count_below(spans, BEGIN, end + 1)
    if first < behind:
        begin = min(begin, spans[first][BEGIN])
        end = max(end, spans[behind - 1][END])
    return spans[:first] + ((begin, end),) + spans[behind:]


def covers(spans, place):
    first = count_below(spans, END, place + 1)
    return first < len(spans) and spans[first][BEGIN] <= place


def cut(spans, begin):
    check_begin(begin)
    rest = spans[count_below(spans, END, begin + 1):]
    if len(rest) > 0 and rest[0][BEGIN] < begin:
        return ((begin, rest[0][END]),) + rest[1:]
    return rest


def holes(spans, begin, end):
    check_stretch(begin, end)
    found = []
    place = begin
    for span in cut(spans, begin):
        if span[BEGIN] >= end:
            break
        if span[BEGIN] > place:
            found.append((place, span[BEGIN]))
        place = span[END]
    if place < end:
        found.append((place, end))
    return tuple(found)


def size_of(spans):
    return sum([span[END] - span[BEGIN] for span in spans])
