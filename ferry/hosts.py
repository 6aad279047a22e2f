"""A host: its life, the streams that it opened and those of the other host that it reads."""

from ferry.errors import Broken, NoStream, NotMet, Spoilt, TooMuch
from ferry.givers import Giver
from ferry.meetings import Meeting
from ferry.pieces import MOST_SIGNS, read, written
from ferry.takers import Taker
from ferry.turns import in_turn

FIRST_OWN_LIFE = 1
LAST_OWN_LIFE = 40
MOST_STREAMS = 50


def found(sides, stream):
    if stream not in sides:
        raise NoStream("there is no such stream in this life")
    if sides[stream] is None:
        raise Broken("this stream is broken")
    return sides[stream]


def whole_ones(sides):
    return sorted([stream for stream in sides if sides[stream] is not None])


def all_broken(sides):
    broken = {}
    for stream in sides:
        broken[stream] = None
    return broken


class Host:
    def __init__(self, room, most, budget):
        self.room = room
        # A piece that holds more couldn't be written.
        self.most = min(most, MOST_SIGNS)
        self.budget = budget
        self.life = FIRST_OWN_LIFE
        self.begin_life()

    def begin_life(self):
        self.meeting = Meeting(self.life)
        # The two sides of streams by their numbers, None for a broken one.
        self.givers = {}
        self.takers = {}
        self.sent_last = None

    def start(self):
        if self.meeting.yours == 0:
            raise NotMet("the other host's life isn't known")
        stream = len(self.givers)
        if stream == MOST_STREAMS:
            raise TooMuch("at most 50 streams are opened in a life")
        self.givers[stream] = Giver(self.most)
        return stream

    def giver(self, stream):
        return found(self.givers, stream)

    def taker(self, stream):
        return found(self.takers, stream)

    def write(self, stream, signs):
        self.giver(stream).write(signs)

    def finish(self, stream):
        self.giver(stream).finish()

    def take(self, stream, count):
        return self.taker(stream).take(count)

    def streams(self):
        return whole_ones(self.givers)

    def others(self):
        return whole_ones(self.takers)

    def broken(self):
        return sorted([stream for stream in self.givers if self.givers[stream] is None])

    def fall(self):
        if self.life == LAST_OWN_LIFE:
            raise TooMuch("no life comes behind this one")
        self.life = self.life + 1
        self.begin_life()

    def tick(self):
        pieces = []
        if not self.meeting.is_met:
            pieces.append(self.meeting.hello())
        pieces.extend(self.pieces_by_turns())
        return [written(piece) for piece in pieces]

    # While the other host's life isn't known there are no givers, so nothing comes of this then.
    def pieces_by_turns(self):
        pieces = []
        waiting = [stream for stream in self.streams() if not self.givers[stream].is_done]
        for stream in in_turn(waiting, self.sent_last):
            if len(pieces) >= self.budget:
                break
            part = self.part_to_send(stream)
            if part is not None:
                pieces.append(self.piece_of(stream, part))
                self.sent_last = stream
        return pieces

    def part_to_send(self, stream):
        giver = self.givers[stream]
        parts = giver.next_parts(1)
        if len(parts) == 0:
            parts = giver.again(1)
        return parts[0] if len(parts) > 0 else None

    def piece_of(self, stream, part):
        """The piece of a part, a tuple of a kind and what that tells of a stream."""
        return part[:1] + (self.meeting.mine, self.meeting.yours, stream) + part[1:]

    def hear(self, text):
        try:
            piece = read(text)
        except Spoilt:
            return []
        told = self.meeting.heard(piece)
        if told is None:
            return []
        is_fresh = told[0]
        is_known = told[1]
        if is_fresh:
            self.break_streams()
        answers = []
        if is_fresh or not is_known:
            answers.append(self.meeting.reply())
        if is_known:
            answers.extend(self.taken_in(piece))
        return [written(answer) for answer in answers]

    def break_streams(self):
        self.givers = all_broken(self.givers)
        self.takers = all_broken(self.takers)

    def taken_in(self, piece):
        """Brings a piece to its stream, and is the list of the pieces that answer it."""
        kind = piece[0]
        if kind == "data" or kind == "end":
            return self.part_came(piece)
        if kind == "answer":
            self.answer_came(piece)
        return []

    def part_came(self, piece):
        stream = piece[3]
        if stream >= MOST_STREAMS:
            return []
        taker = self.taker_made(stream)
        if piece[0] == "data":
            taker.put(piece[4], piece[5])
        else:
            taker.ends(piece[4])
        return [self.piece_of(stream, ("answer",) + taker.answer())]

    def taker_made(self, stream):
        """The taker of a stream, a new one where there is none or it is broken."""
        if self.takers.get(stream) is None:
            self.takers[stream] = Taker(self.room)
        return self.takers[stream]

    def answer_came(self, piece):
        giver = self.givers.get(piece[3])
        if giver is not None:
            giver.answered(piece[4], piece[5], piece[6])
