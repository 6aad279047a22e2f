"""Rows of a played text: their words, and what they ask for."""

from ferry.deeds import is_deed
from ferry.marks import is_number, number_of
from ferry.pieces import MOST_SIGNS
from ferry.roads import LAST_HOST

MOST_ROW_FIGURES = 9
MOST_ROOM = 200
MOST_BUDGET = 20


def words_of(row):
    # Blanks alone part words, so a tab is a sign of one.
    return [word for word in row.split(" ") if word != ""]


def row_number(word):
    return number_of(word) if len(word) <= MOST_ROW_FIGURES else None


def row_numbers(words):
    return tuple([row_number(word) for word in words])


def write_of(row):
    """What a row that begins with write tells, a deed if all of it is of that form."""
    halves = row.partition(":")
    words = words_of(halves[0])
    signs = halves[2][1:] if halves[2].startswith(" ") else None
    return (words[0],) + row_numbers(words[1:]) + (signs,)


def deed_of(row):
    words = words_of(row)
    if len(words) == 0:
        return None
    kind = words[0]
    if kind == "write":
        deed = write_of(row)
    elif kind == "spoil":
        deed = (kind,) + row_numbers(words[1:-1]) + (words[-1],)
    else:
        deed = (kind,) + row_numbers(words[1:])
    return deed if is_deed(deed) else None


def is_world(parts):
    if len(parts) != 4 or not is_number(parts[1], 1, MOST_ROOM):
        return False
    return is_number(parts[2], 1, MOST_SIGNS) and is_number(parts[3], 1, MOST_BUDGET)


def is_question(parts):
    """Whether this is what a row tells that is no deed."""
    kind = parts[0]
    if kind == "world":
        return is_world(parts)
    if kind == "flying":
        return len(parts) == 1
    if kind == "settle":
        return len(parts) == 2 and parts[1] is not None
    if kind in ("streams", "others", "broken"):
        return len(parts) == 2 and is_number(parts[1], 0, LAST_HOST)
    return False


def order_of(row):
    """What a row with words asks for: its deed, or a tuple of the same form that is none; None of other rows."""
    deed = deed_of(row)
    if deed is not None:
        return deed
    words = words_of(row)
    parts = (words[0],) + row_numbers(words[1:])
    return parts if is_question(parts) else None
