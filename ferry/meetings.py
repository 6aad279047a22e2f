"""What a host of one life knows of the other host."""

# No life is 0, so a hello that tells it asks.
NO_LIFE = 0


class Meeting:
    def __init__(self, mine):
        self.mine = mine
        self.yours = NO_LIFE
        self.is_met = False

    def heard(self, piece):
        told_yours = piece[1]
        told_mine = piece[2]
        if told_yours < self.yours or told_mine > self.mine:
            return None
        is_fresh = told_yours > self.yours
        if is_fresh:
            self.yours = told_yours
            self.is_met = False
        is_known = told_mine == self.mine
        if is_known:
            self.is_met = True
        return (is_fresh, is_known)

    def hello(self):
        return ("hello", self.mine, NO_LIFE)

    def reply(self):
        return ("hello", self.mine, self.yours)
