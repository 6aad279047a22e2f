"""Whether anything is left to be done between two hosts."""


def is_all_answered(giver):
    if giver.is_ended:
        return giver.is_done
    return giver.is_heard and giver.come == len(giver.text)


def is_all_taken(taker):
    return taker.read == len(taker.text)


def is_host_settled(host):
    if not host.meeting.is_met:
        return False
    if not all([is_all_answered(host.giver(stream)) for stream in host.streams()]):
        return False
    return all([is_all_taken(host.taker(stream)) for stream in host.others()])


def is_settled(hosts, road):
    return len(road.flying()) == 0 and all([is_host_settled(host) for host in hosts])
