"""The reading side of a stream."""

from ferry.errors import TooMuch
from ferry.pieces import MOST_SPANS
from ferry.slates import Slate

MOST_TAKEN_AT_ONCE = 200


class Taker:
    def __init__(self, room):
        self.room = room
        self.slate = Slate()
        self.told_end = None
        self.text = ""
        self.read = 0
        self.limit = room
        self.is_done = False

    def put(self, at, signs):
        bound = self.limit if self.told_end is None else min(self.limit, self.told_end)
        self.slate.put(at, signs[:max(bound - at, 0)])
        self.text = self.slate.text

    def ends(self, at):
        if self.told_end is not None or at < self.reach():
            return
        self.told_end = at
        self.see_done()

    def reach(self):
        """The place behind the last sign that stands."""
        spans = self.slate.spans
        return spans[-1][1] if len(spans) > 0 else len(self.text)

    def take(self, count):
        if not 1 <= count <= MOST_TAKEN_AT_ONCE:
            raise TooMuch("from 1 to 200 signs are taken at once")
        signs = self.text[self.read:self.read + count]
        self.read = self.read + len(signs)
        self.limit = self.read + self.room
        self.see_done()
        return signs

    def see_done(self):
        self.is_done = self.read == self.told_end

    def answer(self):
        come = len(self.text)
        if come == self.told_end:
            # The end has come too, and counts as one more.
            come = come + 1
        # The first spans alone, as a piece holds no more.
        return (come, self.limit, self.slate.spans[:MOST_SPANS])
