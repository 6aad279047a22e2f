"""The road: pieces on their way to a host, and what is done to them."""

from ferry.errors import NoDeed, NoPiece
from ferry.marks import is_number, is_signs

LAST_HOST = 1
MOST_IN_FLIGHT = 200
MOST_TEXT = 400

# The parts of a piece in flight, a tuple.
NUMBER = 0
HOST = 1
TEXT = 2
IS_SPOILT = 3


def is_road_text(thing):
    return is_signs(thing) and 1 <= len(thing) <= MOST_TEXT


def is_other_sign(thing, sign):
    return is_signs(thing) and len(thing) == 1 and thing != sign


class Road:
    def __init__(self):
        # The pieces in flight, the first to be carried first.
        self.on_way = []
        # What was done, as the log tells it.
        self.done = []
        self.new_number = 0

    def flying(self):
        return [(piece[NUMBER], piece[HOST]) for piece in self.on_way]

    def log(self):
        return list(self.done)

    def text_of(self, number):
        for piece in self.on_way:
            if piece[NUMBER] == number:
                return piece[TEXT]
        return None

    def send(self, host, text):
        if not is_number(host, 0, LAST_HOST) or not is_road_text(text):
            raise NoPiece("a text of 1 to 400 signs goes to host 0 or 1")
        number = self.new_number
        if not self.is_full():
            self.done.append(("send", number, host, text))
        self.put_on(host, text, False)
        return number

    def is_full(self):
        return len(self.on_way) >= MOST_IN_FLIGHT

    def put_on(self, host, text, is_spoilt):
        """Puts a piece behind all; it has its number also where it is lost at once."""
        number = self.new_number
        self.new_number = number + 1
        if self.is_full():
            self.done.append(("full", number, host, text))
        else:
            self.on_way.append((number, host, text, is_spoilt))

    def piece_at(self, place):
        if not is_number(place, 0, len(self.on_way) - 1):
            raise NoPiece("no piece is at this place")
        return self.on_way[place]

    def carry(self, place):
        piece = self.piece_at(place)
        self.on_way.pop(place)
        self.done.append(("carry", piece[NUMBER], piece[HOST], piece[TEXT]))
        return (piece[HOST], piece[TEXT])

    def lose(self, place):
        piece = self.piece_at(place)
        self.on_way.pop(place)
        self.done.append(("lose", piece[NUMBER]))

    def double(self, place):
        piece = self.piece_at(place)
        number = self.new_number
        self.done.append(("double", piece[NUMBER], number))
        self.put_on(piece[HOST], piece[TEXT], piece[IS_SPOILT])
        return number

    def turn(self, place, other):
        piece = self.piece_at(place)
        other_piece = self.piece_at(other)
        self.on_way[place] = other_piece
        self.on_way[other] = piece
        self.done.append(("turn", piece[NUMBER], other_piece[NUMBER]))

    def spoil(self, place, at, sign):
        piece = self.piece_at(place)
        text = piece[TEXT]
        # A second sign could mend the check of what the first one spoilt.
        if piece[IS_SPOILT]:
            raise NoDeed("a piece is spoilt once at most")
        if not is_number(at, 0, len(text) - 1):
            raise NoDeed("this is no place of the text")
        if not is_other_sign(sign, text[at]):
            raise NoDeed("one other sign is put in the stead of one")
        spoilt = text[:at] + sign + text[at + 1:]
        self.on_way[place] = (piece[NUMBER], piece[HOST], spoilt, True)
        self.done.append(("spoil", piece[NUMBER], spoilt))
