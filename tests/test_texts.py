import itertools
import random
import unittest

from ringrestart.errors import NoText
from ringrestart.texts import read_round, read_seen, read_servers, write_round, write_seen, write_servers
from support import RingCase, all_rounds, one_by_one, some_rounds

WORDS = ["0", "1", "2", "10", "58", "59", "60", "61", "99", "100", "00", "01", "007", "-1", "+1", "1.", "1_0", "1,",
         "a", "/", "//", "/1", "1/", "?", "??", "?1", "\n", "1\n", "\n1", "None", "[0]", "()", "~", "", "9" * 40]


def is_number(word):
    return word in [str(j) for j in range(60)]


def round_of_words(words):
    """The batches that the words have, or None; by the form of the whole text."""
    parts = [list(part) for slash, part in itertools.groupby(words, lambda word: word == "/") if not slash]
    numbers = [word for word in words if word != "/"]
    if len(parts) != words.count("/") + 1 or not all(is_number(word) for word in numbers):
        return None
    batches = [[int(word) for word in part] for part in parts]
    if len(set(numbers)) < len(numbers) or any(batch != sorted(batch) for batch in batches):
        return None
    return batches


def wrong_word(words, stands, more):
    """The first word such that no text can begin with the words up to it; more are the words that may follow."""
    for at in range(len(words)):
        begin = words[:at + 1]
        if not stands(begin) and not any(stands(begin + [word]) for word in more):
            return at
    return len(words)


class TextCase(RingCase):

    def reads(self, value, text, read, write):
        """The value has this text, and no other one is written for it."""
        self.gives(value, read, text)
        self.gives(text, write, value)

    def cannot(self, at, read, text):
        error = self.fails(NoText, read, text)
        self.same(at, error.at)


class TestRounds(TextCase):

    def test_examples(self):
        self.reads([[1], [0, 3], [4], [2]], "1 / 0 3 / 4 / 2", read_round, write_round)
        self.cannot(2, read_round, "1 /")

    def test_rounds(self):
        for n in (2, 3, 4):
            for batches in all_rounds(n):
                text = write_round(batches)
                self.reads(batches, text, read_round, write_round)
        for n in (17, 60):
            for batches in some_rounds(n, 5, n) + one_by_one(n):
                self.reads(batches, write_round(batches), read_round, write_round)

    def test_what_is_no_round_of_a_ring(self):
        for value, text in (([[0]], "0"), ([[59]], "59"), ([[7, 9]], "7 9"), ([[9], [7]], "9 / 7"),
                            ([[3, 5], [4]], "3 5 / 4"), ([list(range(60))], " ".join(map(str, range(60))))):
            self.reads(value, text, read_round, write_round)
        many = [[j] for j in reversed(range(60))]
        self.reads(many, " / ".join(str(j) for j in reversed(range(60))), read_round, write_round)

    def test_wrong_words(self):
        for text, at in (
                ("", 0), (" ", 0), ("  ", 0), (" 1", 0), ("1 ", 1), ("1  2", 1), ("1 / 2 ", 3), ("/", 0), ("/ 1", 0),
                ("1 /", 2), ("1 / /", 2), ("1 / / 2", 2), ("1 // 2", 1), ("1 / 2 /", 4), ("1 / 2 / 3 /", 6),
                ("1/2", 0), ("1 /2", 1), ("1 1", 1), ("1 0", 1), ("2 / 1 / 2", 4), ("1 / 1", 2), ("0 2 1", 2),
                ("0 1 / 3 2", 4), ("0 1 / 2 1", 4), ("00", 0), ("01", 0), ("0 01", 1), ("60", 0), ("0 60", 1),
                ("59 60", 1), ("59 / 58 59", 3), ("0 / 100", 2), ("-1", 0), ("+1", 0), ("1 ?", 1), ("?", 0), ("a", 0),
                ("1 / a", 2), ("1\n", 0), ("\n", 0), ("1 \n", 1), ("1 / 2\n", 2), ("1\n2", 0),
                ("1 / 2 / 3 b / 4 c", 5)):
            self.cannot(at, read_round, text)

    def test_short_texts(self):
        words = ["0", "1", "59", "60", "01", "/", "?", "", "b"]
        numbers = [str(j) for j in range(60)]
        for many in (1, 2, 3, 4):
            for some in itertools.product(words, repeat=many):
                some = list(some)
                value = round_of_words(some)
                if value is None:
                    at = wrong_word(some, lambda begin: round_of_words(begin) is not None, numbers)
                    self.cannot(at, read_round, " ".join(some))
                else:
                    self.reads(value, " ".join(some), read_round, write_round)

    def test_every_word(self):
        for word in WORDS:
            if is_number(word):
                self.reads([[int(word)]], word, read_round, write_round)
            else:
                self.cannot(0, read_round, word)
                self.cannot(2 if word == "/" else 1, read_round, "57 " + word)
                self.cannot(2, read_round, "57 / " + word)

    def test_sixty_numbers(self):
        numbers = [str(j) for j in range(60)]
        self.cannot(60, read_round, " ".join(numbers + ["0"]))
        self.cannot(60, read_round, " ".join(numbers + ["60"]))
        self.cannot(119, read_round, " / ".join(numbers) + " 0")
        self.cannot(120, read_round, " / ".join(numbers) + " / 0")

    def test_long_texts(self):
        self.cannot(0, read_round, "9" * 4000)
        self.cannot(0, read_round, "/" * 4000)
        self.cannot(0, read_round, " " * 4000)
        self.cannot(2, read_round, "1 " + "/ " * 1999)
        self.cannot(1, read_round, "1 " * 2000)


class TestServers(TextCase):

    def test_examples(self):
        self.reads([1, 3, 3, 0, 0], "1 3 3 0 0", read_servers, write_servers)
        self.reads([0, 1, 3], "0 1 3", read_servers, write_servers)

    def test_lists(self):
        for many in (1, 2, 3):
            for some in itertools.product([0, 1, 9, 10, 59], repeat=many):
                self.reads(list(some), " ".join(map(str, some)), read_servers, write_servers)
        source = random.Random(4)
        for many in (4, 30, 59, 60):
            for _ in range(5):
                some = [source.randrange(60) for _ in range(many)]
                self.reads(some, " ".join(map(str, some)), read_servers, write_servers)

    def test_every_word(self):
        for word in WORDS:
            if is_number(word):
                self.reads([int(word)], word, read_servers, write_servers)
                self.reads([5, int(word), 0], "5 " + word + " 0", read_servers, write_servers)
            else:
                self.cannot(0, read_servers, word)
                self.cannot(1, read_servers, "5 " + word)
                self.cannot(2, read_servers, "5 5 " + word + " 3")

    def test_all_numbers(self):
        for j in range(60):
            self.reads([j], str(j), read_servers, write_servers)
        for j in range(60, 130):
            self.cannot(0, read_servers, str(j))
        for j in range(10):
            self.cannot(0, read_servers, "0" + str(j))
            self.cannot(1, read_servers, str(j) + " ")

    def test_blanks(self):
        for text, at in (("", 0), (" ", 0), (" 1", 0), ("1 ", 1), ("1  2", 1), ("1 2 ", 2), ("1 2  ", 2), ("1\n2", 0)):
            self.cannot(at, read_servers, text)

    def test_sixty_words(self):
        for word in ("0", "59"):
            self.reads([int(word)] * 60, " ".join([word] * 60), read_servers, write_servers)
            for many in (61, 62, 1000):
                self.cannot(60, read_servers, " ".join([word] * many))
        self.cannot(60, read_servers, " ".join(["7"] * 60) + " ")
        self.cannot(60, read_servers, " ".join(["7"] * 60) + " x")
        self.cannot(59, read_servers, " ".join(["7"] * 59) + " x 7")
        self.cannot(60, read_servers, " ".join(["7"] * 61) + " x")


class TestSeen(TextCase):

    def test_examples(self):
        self.reads([None, 3, 0], "? 3 0", read_seen, write_seen)

    def test_lists(self):
        for many in (1, 2, 3):
            for some in itertools.product([None, 0, 1, 10, 59], repeat=many):
                text = " ".join("?" if j is None else str(j) for j in some)
                self.reads(list(some), text, read_seen, write_seen)
        source = random.Random(4)
        for many in (4, 30, 59, 60):
            some = [source.choice([None, source.randrange(60)]) for _ in range(many)]
            self.reads(some, " ".join("?" if j is None else str(j) for j in some), read_seen, write_seen)

    def test_every_word(self):
        for word in WORDS:
            if is_number(word) or word == "?":
                self.reads([None if word == "?" else int(word)], word, read_seen, write_seen)
            else:
                self.cannot(0, read_seen, word)
                self.cannot(1, read_seen, "? " + word)
                self.cannot(2, read_seen, "? 5 " + word + " ?")

    def test_blanks(self):
        for text, at in (("", 0), (" ", 0), (" ?", 0), ("? ", 1), ("?  ?", 1), ("? 2 ", 2), ("?\n?", 0), ("??", 0)):
            self.cannot(at, read_seen, text)

    def test_sixty_words(self):
        for word, value in (("?", None), ("0", 0)):
            self.reads([value] * 60, " ".join([word] * 60), read_seen, write_seen)
            for many in (61, 62, 1000):
                self.cannot(60, read_seen, " ".join([word] * many))
        self.cannot(60, read_seen, " ".join(["?"] * 60) + " ")
        self.cannot(59, read_seen, " ".join(["?"] * 59) + " x ?")


if __name__ == "__main__":
    unittest.main()
