"""A slate: signs at places, those that have come in order and those that stand behind a hole."""

from ferry.errors import NoSpan
from ferry.spans import added


class Slate:
    def __init__(self):
        self.text = ""
        self.spans = ()
        # The signs behind the first hole, by their places, as these may lie very far apart.
        self.behind = {}

    def put(self, at, signs):
        if at < 0:
            raise NoSpan("no sign stands below nought")
        begin = max(at, len(self.text))
        end = at + len(signs)
        if begin >= end:
            return
        for place in range(begin, end):
            # A sign that stands already stays, whatever is told now.
            self.behind.setdefault(place, signs[place - at])
        self.spans = added(self.spans, begin, end)
        self.draw_in()

    def draw_in(self):
        """Lets what has come in order grow as far as there is no hole."""
        first = self.spans[0]
        if first[0] != len(self.text):
            return
        grown = [self.text]
        for place in range(first[0], first[1]):
            grown.append(self.behind.pop(place))
        self.text = "".join(grown)
        self.spans = self.spans[1:]

    def sign(self, place):
        if 0 <= place < len(self.text):
            return self.text[place]
        return self.behind.get(place)
