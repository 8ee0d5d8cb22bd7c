import random
import unittest

from ringrestart.errors import RingError
from ringrestart.live import Ring
from ringrestart.rounds import all_rounds, repeated
from ringrestart.session import session
from ringrestart.texts import write_round, write_servers
from support import RingCase, some_drops, some_rounds

RING = "ring 5 1 1 2 4"


def numbers(values):
    return " ".join(str(value) for value in values) or "-"


def tried(call, *arguments):
    """The answer to a call of a ring."""
    try:
        result = call(*arguments)
    except RingError as error:
        return type(error).__name__
    if result is None:
        return "ok"
    if isinstance(result, tuple):
        return "/".join(str(part) for part in result)
    return numbers(result) if isinstance(result, list) else str(result)


class SessionCase(RingCase):

    def talk(self, *pairs):
        """Lines and their answers, all in one session."""
        rows = "\n".join(line for line, _ in pairs)
        self.gives("\n".join(answer for _, answer in pairs), session, rows)

    def after_ring(self, *pairs):
        self.talk((RING, "ok"), *pairs)


class TestExamples(SessionCase):

    def test_ring(self):
        self.gives("ok\nok\n0 2 2 3 4\n0 1 3 4\n1/3", session, RING + "\nrestart 1\nplaces\ncan 1\nchance 1 4")

    def test_texts(self):
        self.gives("ok\n4-\n0 1 3", session, "ring 1 1 1 1 1\nrounds 3 3 0 0 0\ndrops 1 / 0 3 / 4 / 2")


class TestLines(SessionCase):

    def test_one_answer_for_each_line(self):
        for rows in ("", "\n", "\n\n\n", "places", "places\n", "\nplaces", RING, RING + "\n", RING + "\n\nleft\n"):
            answers = session(rows)
            self.assertEqual(rows.count("\n"), answers.count("\n"))
        self.gives("?", session, "")
        self.gives("?\n?", session, "\n")
        self.gives("ok\n?", session, RING + "\n")
        self.gives("?\nok\n?\n0 1 2 3 4\n?", session, "\n" + RING + "\n\nleft\n")

    def test_all_calls(self):
        self.after_ring(
            ("places", "0 1 2 3 4"), ("loads", "5 1 1 2 4"), ("peak", "5"), ("left", "0 1 2 3 4"),
            ("can 2", "0 1 2 3 4"), ("chance 0 0", "1/120"), ("chance 0 2", "1/3"), ("mark", "0"), ("restart 1", "ok"),
            ("restart 0 3", "ok"), ("places", "1 2 2 4 4"), ("loads", "0 5 2 0 6"), ("peak", "6"), ("left", "2 4"),
            ("can 0", "1"), ("can 3", "0"), ("chance 0 1", "1/1"), ("chance 0 2", "0/1"), ("mark", "1"), ("undo", "ok"),
            ("back 1", "NoNumber"), ("left", "0 2 3 4"), ("restart 0 2 3 4", "ok"), ("left", "0 1 2 3 4"),
            ("places", "1 1 1 1 1"), ("peak", "13"), ("back 0", "ok"), ("peak", "5"), ("undo", "Nothing"),
            ("mark", "1"))

    def test_errors_of_calls(self):
        self.after_ring(
            ("undo", "Nothing"), ("back 0", "NoNumber"), ("can 5", "NoServer"), ("chance 5 0", "NoServer"),
            ("chance 0 5", "NoServer"), ("restart 0 1 2 3 4", "NoBatch"), ("restart 5", "NoBatch"),
            ("restart 1 0", "NoBatch"), ("restart 0 0", "NoBatch"), ("restart 2", "ok"), ("restart 2", "NoBatch"),
            ("restart 1 2", "NoBatch"), ("mark", "0"), ("back 1", "NoNumber"), ("places", "0 1 3 3 4"))

    def test_before_the_first_ring(self):
        others = ["places", "loads", "peak", "left", "can 0", "chance 0 0", "undo", "mark", "back 0", "restart 0",
                  "drops 0 / 1", "rounds 0 0", "drops x", "rounds x", "can 99", "nonsense", ""]
        before = [(line, "?") for line in others]
        self.talk(*before)
        self.talk(*before, ("ring 1", "NoRing"), *before, ("ring x", "?"), ("ring 1 " + "9" * 31, "NoWeights"), *before,
                  ("ring 1 2", "ok"), ("places", "0 1"), ("drops 0 / 1", "0"), ("can 99", "NoServer"),
                  ("drops x", "NoText"))

    def test_no_lines(self):
        lines = [
            "", " ", "places ", " places", "places 1", "placesx", "Places", "PLACES", "place", "loads 0", "peak 0",
            "left 0", "undo 1", "mark 0", "mark ", "undo ", "can", "can ", "can x", "can 0 1", "can  0", "can 0 ",
            " can 0", "can 00", "can 01", "can -1", "can +1", "can 1.", "can 1_0", "can ?", "chance", "chance 0",
            "chance 0 1 2", "chance 0 x", "chance x 0", "chance 0  1", "chance 0 1 ", "chance 0 01", "back",
            "back x", "back 0 0", "back 00", "back ", "restart", "restart ", "restart x", "restart 0 x",
            "restart 0  2", "restart 0 ", "restart 00", "restart 0 02", "restart 0 / 2", "restart -1", "ring",
            "ring ", "ring x", "ring 1 x", "ring 1  1", "ring 1 1 ", "ring 01 1", "ring 00 1", "ring -1 1",
            "ring 1 / 1", "drops", "drops ", "drops  0 / 1", "drops 0 /  1", "drops 0 / 1 ", "rounds", "rounds ",
            "rounds  0", "rounds 0 0  0 0 0", "rounds 0 0 0 0 0 ", "round_number", "history", "twin", "len",
            "undo_to 0", "can_end 0", "ok", "?", "-", "0", "session", "quit",
        ]
        self.after_ring(*[(line, "?") for line in lines], ("places", "0 1 2 3 4"), ("left", "0 1 2 3 4"), ("mark", "0"))

    def test_digits(self):
        most = "9" * 31
        self.after_ring(
            ("can " + most, "NoServer"), ("can 1" + "0" * 31, "?"), ("chance " + most + " 0", "NoServer"),
            ("chance 0 " + most, "NoServer"), ("chance 0 9" + most, "?"), ("back " + most, "NoNumber"),
            ("back 1" + most, "?"), ("restart " + most, "NoBatch"), ("restart 0 " + most, "NoBatch"),
            ("restart 1" + most, "?"), ("can " + "0" * 31, "?"), ("can 0" + "1" * 30, "?"), ("can " + "9" * 3000, "?"),
            ("ring 1 1" + "0" * 30, "ok"), ("loads", "1 1" + "0" * 30), ("ring 1 1" + "0" * 29 + "1", "NoWeights"),
            ("ring 1 " + most, "NoWeights"), ("ring 1 1" + most, "?"), ("loads", "1 1" + "0" * 30))

    def test_rings(self):
        self.after_ring(
            ("restart 1", "ok"), ("mark", "0"), ("ring 7", "NoRing"), ("ring " + numbers([1] * 61), "NoRing"),
            ("ring " + numbers([1] * 1000), "NoRing"), ("ring " + "9" * 31, "NoRing"),
            ("ring " + numbers([10 ** 31 - 1] * 61), "NoRing"), ("ring 1 1" + "0" * 29 + "1", "NoWeights"),
            ("ring 1 x", "?"), ("left", "0 2 3 4"), ("mark", "1"), ("ring 3 4", "ok"), ("left", "0 1"),
            ("loads", "3 4"), ("undo", "Nothing"), ("back 0", "NoNumber"), ("rounds 3 3 0 0 0", "NoAssignment"),
            ("drops 1 / 0", "1"), ("ring " + numbers(range(60)), "ok"), ("loads", numbers(range(60))), ("mark", "0"),
            ("ring 0 0", "ok"), ("peak", "0"), ("restart 1", "ok"), ("places", "0 0"))

    def test_every_number_of_weights(self):
        for n in range(1, 64):
            answer = session("ring " + numbers([1] * n) + "\nleft")
            self.same("ok\n" + numbers(range(n)) if 2 <= n <= 60 else "NoRing\n?", answer)


class TestTexts(SessionCase):

    def test_drops(self):
        self.after_ring(
            ("drops 1 / 0 3 / 4 / 2", "0 1 3"), ("drops 0 1 2 3 / 4", "0"), ("drops 4 / 3 / 2 / 1 / 0", "1 2 3 4"),
            ("drops 1", "NoRound"), ("drops 0 1 2 3 4", "NoRound"), ("drops 0 1 2 / 3 4 5", "NoRound"),
            ("drops 0 1 2 / 3", "NoRound"), ("drops 0 / 1", "NoRound"), ("drops 1 /", "NoText"), ("drops /", "NoText"),
            ("drops 1 1", "NoText"), ("drops 1 / / 2", "NoText"), ("drops x", "NoText"), ("drops 60", "NoText"),
            ("drops 00 / 1", "NoText"), ("drops ?", "NoText"), ("drops 1 0 / 2 3 4", "NoText"),
            ("drops drops", "NoText"), ("drops 0 / 1 2 3 4 /", "NoText"), ("drops " + "9" * 40, "NoText"))

    def test_drops_of_rounds(self):
        for n in (2, 9, 60):
            for batches in some_rounds(n, 4, n):
                when = {j: k for k, batch in enumerate(batches) for j in batch}
                drops = [j for j in range(n) if when[j] < when[(j - 1) % n]]
                self.talk(("ring " + numbers([1] * n), "ok"), ("drops " + write_round(batches), numbers(drops)))

    def test_rounds(self):
        self.after_ring(
            ("rounds 3 3 0 0 0", "4-"), ("rounds 2 2 2 2 2", "1-"), ("rounds 1 2 3 4 0", "-"),
            ("rounds 0 2 1 0 0", "-"), ("rounds 1 3 3 0 0", "1-1 4-"), ("rounds 0 0 0 0 1", "2-2 4-"),
            ("rounds 1 2 3 4 1", "1-1 5-6 9-11 13-"),
            ("rounds 3", "NoAssignment"), ("rounds 0 0 0 0", "NoAssignment"), ("rounds 0 0 0 0 0 0", "NoAssignment"),
            ("rounds 0 0 0 0 5", "NoAssignment"), ("rounds 59", "NoAssignment"), ("rounds 60", "NoText"),
            ("rounds 0 0 0 0 60", "NoText"), ("rounds x", "NoText"), ("rounds ?", "NoText"), ("rounds 0 / 0", "NoText"),
            ("rounds 00 0 0 0 0", "NoText"), ("rounds " + numbers([0] * 60), "NoAssignment"),
            ("rounds " + numbers([0] * 61), "NoText"))

    def test_rounds_of_a_large_ring(self):
        n = 60
        for drops in some_drops(n, 5):
            for r in (1, 2, 3):
                assignment = repeated(n, drops, r)
                parts = [f"{least}-" if greatest is None else f"{least}-{greatest}"
                         for least, greatest in all_rounds(n, assignment)]
                self.talk(("ring " + numbers([1] * n), "ok"),
                          ("rounds " + write_servers(assignment), " ".join(parts)))

    def test_texts_change_nothing(self):
        self.after_ring(
            ("restart 0 1", "ok"), ("drops 1 / 0 3 / 4 / 2", "0 1 3"), ("rounds 3 3 0 0 0", "4-"),
            ("drops x", "NoText"), ("rounds 1", "NoAssignment"), ("places", "2 2 2 3 4"), ("left", "2 3 4"),
            ("undo", "ok"), ("undo", "Nothing"))


class TestAgainstRing(SessionCase):

    def line(self, source, n):
        """A random line: its words, and the numbers in them."""
        j = source.randrange(n + 1)
        others = ["places", "loads", "peak", "left", "can", "chance", "undo", "mark", "back"]
        word = source.choice(["restart"] * 5 + others)
        if word == "restart":
            return word, sorted({source.randrange(n) for _ in range(source.choice([1, 1, 2, 3]))})
        return word, {"can": [j], "back": [j], "chance": [source.randrange(n), j]}.get(word, [])

    def test_random_sessions(self):
        calls = {"can": "can_end", "chance": "chance_of", "back": "undo_to"}
        for n in (2, 3, 5, 60):
            source = random.Random(n)
            for _ in range(4):
                weights = [source.randrange(10 ** 30 + 1) for _ in range(n)]
                ring = Ring(n, weights)
                pairs = [("ring " + numbers(weights), "ok")]
                for _ in range(299):
                    word, values = self.line(source, n)
                    arguments = [values] if word == "restart" else values
                    answer = tried(getattr(ring, calls.get(word, word)), *arguments)
                    pairs.append((" ".join([word] + [str(value) for value in values]), answer))
                self.talk(*pairs)

    def test_sessions_do_not_share_rings(self):
        self.same("ok\nok", session(RING + "\nrestart 1"))
        self.same("?", session("places"))
        self.same("ok\n0 1 2 3 4", session(RING + "\nleft"))


if __name__ == "__main__":
    unittest.main()
