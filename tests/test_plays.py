"""Points [80] and [81]: a text of rows, played."""

import random
import unittest

from ferry.errors import Broken, Ended, FerryError, NoDeed, NoPiece, NoStream, NotMet, TooMuch
from ferry.pieces import written
from ferry.plays import play
from ferry.rows import deed_of
from ferry.worlds import World

ASK = written(("hello", 1, 0))
REPLY = written(("hello", 1, 1))
# Rows behind which both hosts have met, and their answers.
MEET = ("world 10 5 3", "settle 9")
MET = ["ok", "1"]


class PlayCase(unittest.TestCase):
    def assert_play(self, rows, expected):
        told = play("\n".join(rows))
        self.assertIsInstance(told, list)
        self.assertEqual(told, expected)

    def assert_met_play(self, *rows_and_answers):
        """Rows with their answers, in a world whose hosts have met."""
        rows = [pair[0] for pair in rows_and_answers]
        self.assert_play(list(MEET) + rows, MET + [pair[1] for pair in rows_and_answers])


class Rows(PlayCase):
    def test_nothing(self):
        for text in ("", " ", "\n", "   \n\n  \n"):
            self.assertEqual(play(text), [])

    def test_rows_without_words_are_passed_over(self):
        self.assertEqual(play("\n\nworld 10 5 3\n   \n\ntick 0\n\n"), ["ok", "sent 0"])
        self.assertEqual(play("  \n world   10  5 3  \n  tick   0  "), ["ok", "sent 0"])

    def test_opened(self):
        self.assert_met_play(("open 0", "0"), ("open 0", "1"), ("open 1", "0"), ("open 2", "no row"), ("open 0", "2"))
        self.assert_play(["world 10 5 3", "open 0"], ["ok", "refused: notmet"])
        self.assert_met_play(*[("open 1", str(number)) for number in range(50)] + [("open 1", "refused: toomuch")])

    def test_written(self):
        self.assert_met_play(
            ("write 0 0: abc", "refused: nostream"),
            ("open 0", "0"),
            ("write 0 0: abc", "ok"),
            ("write 0 0:  a: b  ", "ok"),
            ("write 1 0: abc", "refused: nostream"),
            ("write 0 0: ", "refused: toomuch"),
            ("write 0 0: " + "x" * 201, "refused: toomuch"),
            ("write 0 0: " + "x" * 200, "ok"),
            ("write 0 0:", "no row"),
            ("write 0 0:abc", "no row"),
            ("write 0 0 abc", "no row"),
            ("write 2 0: abc", "no row"),
            ("write 0 0: a\tb", "no row"),
            ("write 0 0: a%b", "no row"),
            ("finish 0 0", "ok"),
            ("write 0 0: abc", "refused: ended"),
            # Of the 210 signs one goes first, then five a round; the end has a round of its own.
            ("settle 99", "44"),
            ("others 1", "0"),
        )

    def test_finished(self):
        self.assert_met_play(
            ("finish 0 0", "refused: nostream"),
            ("open 0", "0"),
            ("finish 0 0", "ok"),
            ("finish 0 0", "refused: ended"),
            ("finish 0", "no row"),
            ("finish 2 0", "no row"),
            ("finish 0 999999999", "refused: nostream"),
            ("finish 0 1000000000", "no row"),
        )

    def test_taken_as_it_was_written(self):
        for signs in ("a", " ", "a  b", " : a", "\"", "\"quoted\"", "no world", "~"):
            rows = list(MEET) + ["open 0", "write 0 0: " + signs, "settle 0"]
            # Carried by ticks alone, so that nothing is taken ahead of the take.
            rows += ["tick 0", "carry 0", "carry 0"] * 3 + ["take 1 0 200", "take 1 0 200"]
            self.assertEqual(play("\n".join(rows))[-2:], ['"' + signs + '"', '""'])

    def test_taken(self):
        self.assert_met_play(
            ("open 0", "0"),
            ("write 0 0: abcdefgh", "ok"),
            ("tick 0", "sent 4"),
            ("take 1 0 9", "refused: nostream"),
            ("carry 0", "sent 5"),
            ("carry 0", "sent nothing"),
            ("tick 0", "sent 6"),
            ("carry 0", "sent 7"),
            ("take 1 0 0", "refused: toomuch"),
            ("take 1 0 201", "refused: toomuch"),
            ("take 1 0 4", '"abcd"'),
            ("take 1 0 200", '"ef"'),
            ("take 1 0 1", '""'),
            ("take 0 0 1", "refused: nostream"),
            ("take 2 0 1", "no row"),
            ("take 1 0", "no row"),
            ("take 1 0 01", "no row"),
        )

    def test_fallen(self):
        rows = [("fall 1", f"life {life}") for life in range(2, 41)]
        rows += [("fall 1", "refused: toomuch"), ("fall 0", "life 2"), ("fall 2", "no row"), ("fall", "no row")]
        self.assert_met_play(*rows)
        self.assert_play(["world 10 5 3", "fall 0"], ["ok", "life 2"])

    def test_ticks_and_carries(self):
        self.assert_play(
            ["world 10 5 3", "tick 0", "tick 1", "tick 1", "carry 0", "carry 0", "carry 5", "carry 2", "carry 1", "tick 0",
             "carry 999999999", "carry 1000000000", "carry -1", "tick 2"],
            ["ok", "sent 0", "sent 1", "sent 2", "sent 3", "sent 4", "refused: nopiece", "sent nothing", "sent nothing",
             "sent nothing", "refused: nopiece", "no row", "no row", "no row"])

    def test_several_sent(self):
        self.assert_met_play(
            ("open 0", "0"), ("open 0", "1"), ("open 0", "2"), ("open 0", "3"),
            ("tick 0", "sent 4 5 6"),
            ("tick 0", "sent 7 8 9"),
        )

    def test_two_answers_of_a_carry(self):
        self.assert_play(
            ["world 10 5 3", "tick 0", "carry 0", "lose 0", "open 1", "tick 1", "lose 0", "carry 0"],
            ["ok", "sent 0", "sent 1", "ok", "0", "sent 2 3", "ok", "sent 4 5"])

    def test_lost_turned_doubled(self):
        self.assert_play(
            ["world 10 5 3", "lose 0", "double 0", "turn 0 0", "tick 0", "tick 1", "double 0", "turn 0 2", "turn 1 1",
             "turn 0 3", "lose 3", "lose 0", "double 2", "flying", "lose", "turn 0", "turn 0 0 0", "double", "double 0 0"],
            ["ok", "refused: nopiece", "refused: nopiece", "refused: nopiece", "sent 0", "sent 1", "2", "ok", "ok",
             "refused: nopiece", "refused: nopiece", "ok", "refused: nopiece", f"1 to 0: {ASK}; 0 to 1: {ASK}",
             "no row", "no row", "no row", "no row", "no row"])

    def test_a_full_road(self):
        rows = ["world 10 5 3"] + ["tick 0"] * 201 + ["double 0", "carry 0", "double 0"]
        answers = ["ok"] + [f"sent {number}" for number in range(201)] + ["201", "sent 202", "203"]
        self.assert_play(rows, answers)

    def test_spoilt(self):
        self.assert_play(
            ["world 10 5 3", "spoil 0 0 x", "tick 0", "spoil 0 99 x", "spoil 0 0 h", "spoil 0 0 \t", "spoil 0 0",
             "spoil 0 0 xy", "spoil 0 0 x y", "spoil 1 0 x", "spoil 0 0 x", "spoil 0 0 y", "flying", "carry 0"],
            ["ok", "refused: nopiece", "sent 0", "refused: nodeed", "refused: nodeed", "refused: nodeed", "no row",
             "no row", "no row", "refused: nopiece", "ok", "refused: nodeed", "0 to 1: x" + ASK[1:], "sent nothing"])

    def test_flying(self):
        self.assert_play(
            ["world 10 5 3", "flying", "tick 1", "flying", "tick 0", "flying", "carry 0", "flying", "flying 0", "spoil 0 6 7",
             "flying"],
            ["ok", "nothing", "sent 0", f"0 to 0: {ASK}", "sent 1", f"0 to 0: {ASK}; 1 to 1: {ASK}", "sent 2",
             f"1 to 1: {ASK}; 2 to 1: {REPLY}", "no row", "ok",
             f"1 to 1: hello 7 0{ASK[9:]}; 2 to 1: {REPLY}"])

    def test_settled(self):
        self.assert_play(["world 10 5 3", "settle 0", "settle 1", "settle 999999999"], ["ok", "0", "1", "0"])
        self.assert_met_play(
            ("open 0", "0"), ("write 0 0: abc", "ok"), ("finish 0 0", "ok"),
            ("settle 2", "2"), ("settle 999999999", "1"), ("settle 5", "0"), ("take 1 0 9", '""'),
            ("settle", "no row"), ("settle 1000000000", "no row"), ("settle -1", "no row"), ("settle 1 1", "no row"),
            ("settle x", "no row"), ("settle 01", "no row"),
        )

    def test_streams_others_broken(self):
        none_yet = [(f"{kind} {host}", "none") for kind in ("streams", "others", "broken") for host in (0, 1)]
        self.assert_met_play(*none_yet)
        self.assert_met_play(
            ("open 0", "0"), ("streams 0", "0"), ("open 0", "1"), ("open 0", "2"), ("open 1", "0"),
            ("streams 0", "0 1 2"), ("streams 1", "0"), ("others 1", "none"), ("settle 9", "1"),
            ("others 1", "0 1 2"), ("others 0", "0"), ("broken 0", "none"), ("broken 1", "none"),
            ("fall 1", "life 2"), ("streams 1", "none"), ("others 1", "none"), ("broken 1", "none"),
            ("streams 0", "0 1 2"), ("settle 9", "1"),
            ("streams 0", "none"), ("broken 0", "0 1 2"), ("others 0", "none"), ("open 0", "3"), ("streams 0", "3"),
            ("broken 0", "0 1 2"), ("write 0 1: a", "refused: broken"), ("finish 0 0", "refused: broken"),
            ("take 0 0 5", "refused: broken"),
            ("streams 2", "no row"), ("others 2", "no row"), ("broken 2", "no row"), ("streams", "no row"),
            ("others", "no row"), ("broken", "no row"), ("streams 0 0", "no row"), ("broken 0 1", "no row"),
            ("others x", "no row"), ("streams 00", "no row"),
        )


class Worlds(PlayCase):
    def test_bounds(self):
        for room in (1, 200):
            for most in (1, 40):
                for budget in (1, 20):
                    self.assert_play([f"world {room} {most} {budget}"], ["ok"])
        for row in ("world 0 5 3", "world 201 5 3", "world 10 0 3", "world 10 41 3", "world 10 5 0", "world 10 5 21",
                    "world 10 5", "world 10 5 3 1", "world", "world 10 5 x", "world x 5 3", "world 10 05 3", "world -1 5 3",
                    "world 10 5 3:", "world: 10 5 3", "World 10 5 3", "world\t10 5 3", "world 1000000001 5 3"):
            self.assert_play([row], ["no row"])
            self.assert_play([row, "tick 0"], ["no row", "no world"])

    def test_its_numbers_are_used(self):
        rows = ["open 0", "open 0", "write 0 0: abcdefghijkl", "tick 0", "carry 0", "flying", "carry 0", "carry 0", "carry 0",
                "tick 0", "flying"]
        ask = written(("data", 1, 1, 1, 0, ""))
        answer = written(("answer", 1, 1, 0, 1, 9, ()))
        data = written(("data", 1, 1, 0, 1, "bcde"))
        answers = play("\n".join(["world 9 4 1", "settle 9"] + rows))
        self.assertEqual(answers[5:], ["sent 4", "sent 5", f"5 to 0: {answer}", "sent nothing", "refused: nopiece",
                                       "refused: nopiece", "sent 6", f"6 to 1: {ask}"])
        answers = play("\n".join(["world 9 4 2", "settle 9"] + rows))
        self.assertEqual(answers[5:], ["sent 4 5", "sent 6", f"5 to 1: {ask}; 6 to 0: {answer}", "sent 7", "sent nothing",
                                       "sent nothing", "sent 8", f"8 to 1: {data}"])
        answers = play("\n".join(["world 8 4 2", "settle 9"] + rows))
        self.assertIn(written(("answer", 1, 1, 0, 1, 8, ())), answers[7])

    def test_a_second_world(self):
        self.assert_play(
            ["world 10 5 3", "settle 9", "open 0", "tick 0", "flying", "world 20 5 3", "flying", "streams 0", "open 0",
             "tick 1"],
            ["ok", "1", "0", "sent 4", "4 to 1: " + written(("data", 1, 1, 0, 0, "")), "ok", "nothing", "none",
             "refused: notmet", "sent 0"])

    def test_a_world_that_is_none_changes_nothing(self):
        self.assert_met_play(("open 0", "0"), ("world 0 5 3", "no row"), ("streams 0", "0"), ("world 10 5", "no row"),
                             ("open 0", "1"))

    def test_rows_ahead_of_any_world(self):
        rows = ["open 0", "write 0 0: abc", "finish 0 0", "take 0 0 9", "fall 0", "tick 0", "carry 0", "lose 0", "double 0",
                "turn 0 0", "spoil 0 0 x", "settle 1", "flying", "streams 0", "others 1", "broken 0"]
        self.assert_play(rows, ["no world"] * len(rows))
        self.assert_play(rows + ["world 10 5 3", "tick 0"], ["no world"] * len(rows) + ["ok", "sent 0"])

    def test_rows_that_are_none_ahead_of_any_world(self):
        rows = ["open 2", "open", "write 0 0:abc", "finish 0", "take 0 0", "fall x", "tick", "carry -1", "lose 0 0",
                "double 00", "turn 0", "spoil 0 0 xy", "settle", "flying 1", "streams 2", "others", "broken 0 0", "world",
                "x", "\t", ":", "hello 1 0", "start 0"]
        self.assert_play(rows, ["no row"] * len(rows))
        self.assert_play(["world 10 5 3"] + rows, ["ok"] + ["no row"] * len(rows))

    def test_tabs_in_words(self):
        self.assert_play(["world 10 5 3", "tick\t0", "tick 0\t", "\ttick 0", "\t", "tick 0 \t", "flying\t"],
                         ["ok"] + ["no row"] * 6)


class NoText(unittest.TestCase):
    def test_what_is_no_text(self):
        for thing in (None, True, False, 0, 1, 17, (), ("tick 0",), [], ["world 10 5 3"], {}, b"world 10 5 3", object()):
            with self.assertRaises(NoDeed):
                play(thing)


class Own(PlayCase):
    """Point [2]: the same text gives the same, and what is given is the asker's own."""

    ROWS = ("world 3 2 1", "settle 9", "open 0", "write 0 0: abcdef", "tick 0", "double 0", "carry 1", "spoil 0 2 x",
            "settle 99", "fall 1", "settle 9", "broken 0", "flying")

    def test_the_same_text_played_twice(self):
        text = "\n".join(self.ROWS)
        first = play(text)
        self.assertEqual(play(text), first)
        self.assertEqual(len(first), len(self.ROWS))

    def test_the_list_stays_behind_another_play(self):
        text = "\n".join(self.ROWS)
        first = play(text)
        kept = list(first)
        play("world 10 5 3\ntick 0\nopen 2")
        self.assertEqual(first, kept)
        first.clear()
        self.assertEqual(play(text), kept)


class Drawn(PlayCase):
    """Drawn rows: the answers are those of a world that does their deeds."""

    WORDS = {NoPiece: "nopiece", NoStream: "nostream", NotMet: "notmet", Broken: "broken", Ended: "ended",
             TooMuch: "toomuch", NoDeed: "nodeed"}

    def draw(self, chance):
        host = chance.choice("0011111200")
        number = str(chance.choice((0, 0, 0, 1, 1, 2, 3, 7)))
        kind = chance.choice(("open", "write", "write", "finish", "take", "fall", "tick", "tick", "tick", "carry", "carry",
                              "carry", "carry", "lose", "double", "turn", "spoil"))
        if kind == "fall" and chance.randint(0, 9) > 0:
            kind = "tick"
        if kind in ("open", "fall", "tick"):
            return f"{kind} {host}"
        if kind == "write":
            return f"write {host} {number}: " + "".join([chance.choice("ab: ") for turn in range(chance.randint(0, 5))])
        if kind == "finish":
            return f"finish {host} {number}"
        if kind == "take":
            return f"take {host} {number} {chance.randint(0, 5)}"
        if kind == "turn":
            return f"turn {number} {chance.randint(0, 3)}"
        if kind == "spoil":
            return f"spoil {number} {chance.randint(0, 15)} " + chance.choice("h1: ")
        return f"{kind} {number}"

    def expected(self, world, row):
        deed = deed_of(row)
        if deed is None:
            return "no row"
        try:
            answer = world.do(deed)
        except FerryError as refusal:
            return "refused: " + self.WORDS[type(refusal)]
        if deed[0] == "fall":
            return f"life {world.hosts[deed[1]].life}"
        if deed[0] == "take":
            return f'"{answer}"'
        if isinstance(answer, list):
            return " ".join(["sent"] + ([str(number) for number in answer] or ["nothing"]))
        return "ok" if answer is None else str(answer)

    def test_drawn_rows(self):
        chance = random.Random(80)
        seen = set()
        for turn in range(40):
            world = World(4, 3, 2)
            rows = [self.draw(chance) for step in range(150)]
            answers = [self.expected(world, row) for row in rows]
            self.assert_play(["world 4 3 2"] + rows, ["ok"] + answers)
            seen |= set(answers)
        for word in self.WORDS.values():
            self.assertIn("refused: " + word, seen)
        self.assertIn("no row", seen)
        self.assertIn("sent nothing", seen)


if __name__ == "__main__":
    unittest.main()
