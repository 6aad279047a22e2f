"""A world: two hosts, the road between them, and what was done there."""

from ferry.deeds import is_deed
from ferry.errors import NoDeed
from ferry.hosts import Host
from ferry.roads import Road
from ferry.settling import is_settled
from ferry.takers import MOST_TAKEN_AT_ONCE

ROAD_DEEDS = ("carry", "lose", "double", "turn", "spoil")
MOST_CARRIED_A_ROUND = 1000


def copied(answer):
    """An answer of a deed, a list as another one, which its asker may change."""
    return list(answer) if isinstance(answer, list) else answer


class World:
    def __init__(self, room, most, budget):
        self.pair = (Host(room, most, budget), Host(room, most, budget))
        # A list beside the pair, as its asker may change it.
        self.hosts = list(self.pair)
        self.road = Road()
        # The deeds that were done, with their answers.
        self.done = []

    def log(self):
        return [(entry[0], copied(entry[1])) for entry in self.done]

    def do(self, deed):
        if not is_deed(deed):
            raise NoDeed("this is no deed")
        answer = self.road_answer(deed) if deed[0] in ROAD_DEEDS else self.host_answer(deed)
        self.done.append((deed, copied(answer)))
        return answer

    def host_answer(self, deed):
        kind = deed[0]
        host = self.pair[deed[1]]
        if kind == "open":
            return host.start()
        if kind == "write":
            return host.write(deed[2], deed[3])
        if kind == "finish":
            return host.finish(deed[2])
        if kind == "take":
            return host.take(deed[2], deed[3])
        if kind == "fall":
            return host.fall()
        return self.sent_from(deed[1], host.tick())

    def road_answer(self, deed):
        kind = deed[0]
        if kind == "lose":
            return self.road.lose(deed[1])
        if kind == "double":
            return self.road.double(deed[1])
        if kind == "turn":
            return self.road.turn(deed[1], deed[2])
        if kind == "spoil":
            return self.road.spoil(deed[1], deed[2], deed[3])
        arrived = self.road.carry(deed[1])
        return self.sent_from(arrived[0], self.pair[arrived[0]].hear(arrived[1]))

    def sent_from(self, host, texts):
        """Sends texts to the other host, and is the list of their numbers."""
        return [self.road.send(1 - host, text) for text in texts]

    def settle(self, rounds):
        needed = 0
        while needed < rounds and not is_settled(self.pair, self.road):
            self.clean_round()
            needed = needed + 1
        return needed

    def clean_round(self):
        self.do(("tick", 0))
        self.do(("tick", 1))
        self.carry_all()
        for host in range(len(self.pair)):
            for stream in self.pair[host].others():
                self.take_all(host, stream)

    def carry_all(self):
        carried = 0
        while carried < MOST_CARRIED_A_ROUND and len(self.road.flying()) > 0:
            self.do(("carry", 0))
            carried = carried + 1

    def take_all(self, host, stream):
        signs = self.do(("take", host, stream, MOST_TAKEN_AT_ONCE))
        while signs != "":
            signs = self.do(("take", host, stream, MOST_TAKEN_AT_ONCE))
