"""The texts of rounds, of lists of servers and of observations, and the values that texts have."""

from ringrestart.errors import NoText
from ringrestart.words import number_in

GREATEST_NUMBER = 59
MOST_WORDS = 60


def write_round(batches):
    """The text of a round."""
    return " / ".join([write_servers(batch) for batch in batches])


def read_round(text):
    """The batches that a text has; they need not be a round of any ring."""
    words = text.split(" ")
    batches = [[]]
    used = set()
    for at, word in enumerate(words):
        batch = batches[-1]
        if word == "/" and batch:
            batches.append([])
            continue
        j = _number(word)
        if j is None or j in used or (batch and j < batch[-1]):
            raise NoText(at)
        used.add(j)
        batch.append(j)
    if not batches[-1]:
        raise NoText(len(words))
    return batches


def write_servers(servers):
    """The text of drops, of an assignment or of an order."""
    return " ".join([str(j) for j in servers])


def read_servers(text):
    """The list of the numbers that a text has, in any order."""
    servers = []
    for at, word in enumerate(text.split(" ")):
        j = _number(word)
        if j is None or at == MOST_WORDS:
            raise NoText(at)
        servers.append(j)
    return servers


def write_seen(seen):
    """The text of an observation."""
    return " ".join(["?" if j is None else str(j) for j in seen])


def read_seen(text):
    """The observation that a text has."""
    seen = []
    for at, word in enumerate(text.split(" ")):
        j = _number(word)
        if (j is None and word != "?") or at == MOST_WORDS:
            raise NoText(at)
        seen.append(j)
    return seen


def _number(word):
    """The number of a server of some ring; None for any other word."""
    j = number_in(word, 2)
    return None if j is None or j > GREATEST_NUMBER else j
