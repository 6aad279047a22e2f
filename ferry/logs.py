"""What the log of a road tells of one piece."""


def sent_text(log, number):
    # The text that each piece has by now: a doubling is put on the road with what the doubled one has then.
    texts = {}
    for entry in log:
        kind = entry[0]
        if kind == "send" or kind == "full":
            texts[entry[1]] = entry[3]
        elif kind == "double":
            texts[entry[2]] = texts[entry[1]]
        elif kind == "spoil":
            texts[entry[1]] = entry[2]
        if number in texts:
            return texts[number]
    return None


def is_gone(log, number):
    for entry in log:
        if entry[0] in ("full", "carry", "lose") and entry[1] == number:
            return True
    return False
