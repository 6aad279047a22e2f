"""The sending side of a stream."""

from ferry.errors import Ended, TooMuch
from ferry.spans import added, cut, holes

MOST_WRITTEN_AT_ONCE = 200
MOST_WRITTEN = 2000
# One sign may go ahead of any answer.
FIRST_LIMIT = 1


class Giver:
    def __init__(self, most):
        self.most = most
        self.text = ""
        self.sent = 0
        self.come = 0
        self.limit = FIRST_LIMIT
        self.spans = ()
        self.is_ended = False
        self.is_end_sent = False
        self.is_heard = False
        self.is_done = False

    def write(self, signs):
        if self.is_ended:
            raise Ended("nothing is written behind the end")
        if not 1 <= len(signs) <= MOST_WRITTEN_AT_ONCE:
            raise TooMuch("from 1 to 200 signs are written at once")
        if len(self.text) + len(signs) > MOST_WRITTEN:
            raise TooMuch("at most 2000 signs are written in all")
        self.text = self.text + signs

    def finish(self):
        if self.is_ended:
            raise Ended("the stream is ended already")
        self.is_ended = True

    def answered(self, come, limit, spans):
        most_come = len(self.text) + 1 if self.is_ended else len(self.text)
        if come > most_come or limit + 1 < come:
            return
        self.is_heard = True
        self.come = max(self.come, come)
        self.limit = max(self.limit, limit)
        self.spans = self.known_with(spans)
        self.is_done = self.is_ended and self.come == len(self.text) + 1

    def known_with(self, spans):
        """The known spans and the told ones, from come on, within what was written."""
        known = cut(self.spans, self.come)
        for span in spans:
            begin = max(span[0], self.come)
            end = min(span[1], len(self.text))
            if begin < end:
                known = added(known, begin, end)
        return known

    def next_parts(self, count):
        parts = []
        while len(parts) < count:
            part = self.next_part()
            if part is None:
                break
            parts.append(part)
        return parts

    def next_part(self):
        """The next part, which counts as sent then, or None."""
        at = self.sent
        end = min(at + self.most, self.limit, len(self.text))
        if at < end:
            self.sent = end
            return ("data", at, self.text[at:end])
        if self.is_ended and not self.is_end_sent and at == len(self.text):
            self.is_end_sent = True
            return ("end", at)
        return None

    def again(self, count):
        return self.parts_again()[:count]

    def parts_again(self):
        parts = self.parts_of_holes()
        if len(parts) > 0:
            return parts
        if self.is_end_sent and not self.is_done:
            return [("end", len(self.text))]
        if self.sent < len(self.text) or not self.is_heard:
            # No signs: it only asks for an answer, which may tell a greater limit.
            return [("data", self.sent, "")]
        return []

    def parts_of_holes(self):
        parts = []
        # What has come may lie behind what was sent: by one, where the end is counted too.
        for hole in holes(self.spans, self.come, max(self.come, self.sent)):
            for at in range(hole[0], hole[1], self.most):
                parts.append(("data", at, self.text[at:min(at + self.most, hole[1])]))
        return parts
