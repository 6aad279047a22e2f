"""The front: the rows of a text, done in a world, and their answers."""

from ferry.errors import Broken, Ended, NoDeed, NoPiece, NoStream, NotMet, TooMuch
from ferry.marks import figures
from ferry.rows import order_of, words_of
from ferry.worlds import World


def numbers_told(numbers, none_word):
    if len(numbers) == 0:
        return none_word
    return " ".join([figures(number) for number in numbers])


def flying_told(road):
    pieces = []
    for pair in road.flying():
        number = figures(pair[0])
        host = figures(pair[1])
        text = road.text_of(pair[0])
        pieces.append(f"{number} to {host}: {text}")
    return "; ".join(pieces) if len(pieces) > 0 else "nothing"


def done_told(world, deed, answer):
    """The words for what a deed gave."""
    kind = deed[0]
    if kind == "open" or kind == "double":
        return figures(answer)
    if kind == "take":
        return '"' + answer + '"'
    if kind == "fall":
        return "life " + figures(world.hosts[deed[1]].life)
    if kind == "tick" or kind == "carry":
        return "sent " + numbers_told(answer, "nothing")
    return "ok"


# The refusals that deeds meet: Spoilt is taken by the host that hears, NoSpan is met by no piece.
def deed_answer(world, deed):
    try:
        answer = world.do(deed)
    except NoStream:
        return "refused: nostream"
    except NotMet:
        return "refused: notmet"
    except Broken:
        return "refused: broken"
    except Ended:
        return "refused: ended"
    except TooMuch:
        return "refused: toomuch"
    except NoPiece:
        return "refused: nopiece"
    except NoDeed:
        return "refused: nodeed"
    return done_told(world, deed, answer)


def order_answer(world, order):
    kind = order[0]
    if kind == "world":
        return "ok"
    if kind == "settle":
        return figures(world.settle(order[1]))
    if kind == "flying":
        return flying_told(world.road)
    if kind == "streams":
        return numbers_told(world.hosts[order[1]].streams(), "none")
    if kind == "others":
        return numbers_told(world.hosts[order[1]].others(), "none")
    if kind == "broken":
        return numbers_told(world.hosts[order[1]].broken(), "none")
    return deed_answer(world, order)


def play(text):
    if not isinstance(text, str):
        raise NoDeed("only a text is played")
    answers = []
    world = None
    for row in text.split("\n"):
        if len(words_of(row)) == 0:
            continue
        order = order_of(row)
        if order is None:
            answers.append("no row")
            continue
        if order[0] == "world":
            world = World(order[1], order[2], order[3])
        answers.append(order_answer(world, order) if world is not None else "no world")
    return answers
