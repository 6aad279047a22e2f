"""Pieces: what hosts send one another, and the texts they are written as."""

from ferry.errors import NoPiece, Spoilt
from ferry.marks import check_of, figures, is_number, is_signs, number_of

# 10 ** 9
LAST_LIFE = 1000000000
LAST_STREAM = 999
# 10 ** 6
LAST_PLACE = 1000000
# One more than the last place, as an end that has come is counted too.
MOST_COME = 1000001
MOST_LIMIT = 1000200
MOST_SIGNS = 40
MOST_SPANS = 8
CHECK_FIGURES = 4


def is_life(thing):
    return is_number(thing, 1, LAST_LIFE)


def is_place(thing):
    return is_number(thing, 0, LAST_PLACE)


def names_stream(parts):
    return is_life(parts[1]) and is_life(parts[2]) and is_number(parts[3], 0, LAST_STREAM)


def is_hello(parts):
    return len(parts) == 3 and is_life(parts[1]) and is_number(parts[2], 0, LAST_LIFE)


def is_data(parts):
    if len(parts) != 6 or not names_stream(parts):
        return False
    at = parts[4]
    signs = parts[5]
    if not is_place(at) or not is_signs(signs):
        return False
    return len(signs) <= MOST_SIGNS and at + len(signs) <= LAST_PLACE


def is_end(parts):
    return len(parts) == 5 and names_stream(parts) and is_place(parts[4])


def is_span_above(thing, floor):
    if not isinstance(thing, tuple) or len(thing) != 2:
        return False
    return is_place(thing[0]) and is_place(thing[1]) and floor < thing[0] < thing[1]


def are_spans_above(thing, floor):
    if not isinstance(thing, tuple) or len(thing) > MOST_SPANS:
        return False
    for span in thing:
        if not is_span_above(span, floor):
            return False
        floor = span[1]
    return True


def is_answer(parts):
    if len(parts) != 7 or not names_stream(parts):
        return False
    if not is_number(parts[4], 0, MOST_COME) or not is_number(parts[5], 0, MOST_LIMIT):
        return False
    return are_spans_above(parts[6], parts[4])


def is_piece(thing):
    if not isinstance(thing, tuple) or len(thing) == 0:
        return False
    kind = thing[0]
    # Looked at ahead of any ==, as a thing of another kind may answer that in its own way.
    if not isinstance(kind, str):
        return False
    if kind == "hello":
        return is_hello(thing)
    if kind == "data":
        return is_data(thing)
    if kind == "end":
        return is_end(thing)
    return kind == "answer" and is_answer(thing)


def number_words(numbers):
    return [figures(number) for number in numbers]


def signs_word(signs):
    count = figures(len(signs))
    return f"{count}:{signs}"


def spans_word(spans):
    if len(spans) == 0:
        return "-"
    return ",".join(["-".join(number_words(span)) for span in spans])


def body_of(piece):
    kind = piece[0]
    if kind == "data":
        words = number_words(piece[1:5]) + [signs_word(piece[5])]
    elif kind == "answer":
        words = number_words(piece[1:6]) + [spans_word(piece[6])]
    else:
        words = number_words(piece[1:])
    return " ".join([kind] + words)


def written(piece):
    if not is_piece(piece):
        raise NoPiece("this is no piece")
    body = body_of(piece)
    check = figures(check_of(body)).zfill(CHECK_FIGURES)
    return f"{body} {check}"


def numbers_of(words):
    return tuple([number_of(word) for word in words])


def spans_of(word):
    if word == "-":
        return ()
    return tuple([numbers_of(span.split("-")) for span in word.split(",")])


# What comes of a body that written never makes is some tuple that is no piece,
# or a piece that is written otherwise: read refuses both.
def parts_of(body):
    words = body.split(" ")
    kind = words[0]
    if kind == "data":
        # The signs may hold blanks: only the first five blanks part words.
        words = body.split(" ", 5)
        return (kind,) + numbers_of(words[1:-1]) + (words[-1].partition(":")[2],)
    if kind == "answer":
        return (kind,) + numbers_of(words[1:-1]) + (spans_of(words[-1]),)
    return (kind,) + numbers_of(words[1:])


def read(text):
    if not is_signs(text):
        raise Spoilt("this is no text of signs")
    piece = parts_of(text.rpartition(" ")[0])
    # Written once more, so that the check, the count of signs, noughts ahead
    # and blanks are all held to the one form that written makes.
    if not is_piece(piece) or written(piece) != text:
        raise Spoilt("this is not what is written of a piece")
    return piece
