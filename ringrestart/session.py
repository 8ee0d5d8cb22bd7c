"""Sessions: lines of text that ask a live ring, and the text of the answers."""

from ringrestart.drops import drops_of
from ringrestart.errors import RingError
from ringrestart.live import Ring
from ringrestart.rounds import all_rounds
from ringrestart.texts import read_round, read_servers, write_servers
from ringrestart.words import number_in

MOST_DIGITS = 31
NO_LINE = "?"


def session(rows):
    """The answers to the lines of a string, one line for each."""
    talk = Talk()
    return "\n".join([talk.answer(line) for line in rows.split("\n")])


class Talk:
    """A session: its ring, which is None before the first ring line that answers ok."""

    def __init__(self):
        self.ring = None

    def answer(self, line):
        """The answer to a line."""
        word, *words = line.split(" ")
        try:
            if word == "ring":
                return self._begin(words)
            return NO_LINE if self.ring is None else self._ask(word, words)
        except RingError as error:
            return type(error).__name__

    def _begin(self, words):
        weights = [number_in(each, MOST_DIGITS) for each in words]
        if not weights or None in weights:
            return NO_LINE
        self.ring = Ring(len(weights), weights)
        return "ok"

    def _ask(self, word, words):
        if word == "drops" or word == "rounds":
            return _read(self.ring.n, word, words)
        numbers = [number_in(each, MOST_DIGITS) for each in words]
        return NO_LINE if None in numbers else _written(_called(self.ring, [word, *numbers]))


def _read(n, word, words):
    """The answer to a line with a text behind its first word."""
    if not words or "" in words:
        return NO_LINE
    text = " ".join(words)
    if word == "drops":
        return write_servers(drops_of(n, read_round(text)))
    return _listed([_interval(least, greatest) for least, greatest in all_rounds(n, read_servers(text))])


def _interval(least, greatest):
    return f"{least}-" if greatest is None else f"{least}-{greatest}"


def _called(ring, line):
    """What the ring returns to a line with numbers behind its first word."""
    match line:
        case ["restart", first, *others]:
            return ring.restart([first, *others])
        case ["places"]:
            return ring.places()
        case ["loads"]:
            return ring.loads()
        case ["peak"]:
            return ring.peak()
        case ["left"]:
            return ring.left()
        case ["can", i]:
            return ring.can_end(i)
        case ["chance", i, j]:
            return ring.chance_of(i, j)
        case ["undo"]:
            return ring.undo()
        case ["mark"]:
            return ring.mark()
        case ["back", mark]:
            return ring.undo_to(mark)
        case _:
            return NO_LINE


def _written(result):
    """The text of what a call returns."""
    if result is None:
        return "ok"
    if isinstance(result, list):
        return _listed([str(number) for number in result])
    if isinstance(result, tuple):
        top, bottom = result
        return f"{top}/{bottom}"
    return str(result)


def _listed(words):
    return " ".join(words) if words else "-"
