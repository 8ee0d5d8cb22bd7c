"""Rounds in few batches."""

from ringrestart.checks import need_drops, need_ring
from ringrestart.circle import batches_of


def fewest_batches(n, drops):
    """The least number of batches of a round with these drops."""
    return 1 + max(_times_together(n, drops))


def longest_run(n, drops):
    """The first server and the length of a longest sequence of drops; the least first server wins."""
    behind = _times_together(n, drops)
    length = max(behind)
    first = 0
    # behind[-1] belongs to the last server, which stands in front of server 0.
    while behind[first - 1] < length:
        first += 1
    return (first, length)


def round_in_batches(n, drops):
    """The round with the fewest batches in which every server is restarted as early as it can be."""
    return batches_of(n, _times_together(n, drops))


def fewest_apart(n, drops):
    """The least number of batches, if neighbours may not be in the same batch."""
    return 1 + max(_times_apart(n, drops))


def round_apart(n, drops):
    """A round with the fewest batches in which neighbours are not in the same batch."""
    return batches_of(n, _times_apart(n, drops))


def _times_together(n, drops):
    """The earliest times: for every server the number of consecutive drops directly behind it."""
    need_ring(n)
    need_drops(n, drops)
    falls = [j in drops for j in range(n)]
    other = falls.index(False)
    behind = [0] * n
    # Backwards around the ring, from the server in front of the other one; numbers below 0 are places from the end.
    for j in range(other - 2, other - 1 - n, -1):
        if falls[j + 1]:
            behind[j] = behind[j + 1] + 1
    return behind


def _times_apart(n, drops):
    """The earliest times, if a server that is no drop must come after the server in front of it."""
    times = _times_together(n, drops)
    falls = [j in drops for j in range(n)]
    others = 0
    for place in range(drops[0], drops[0] + n):
        j = place % n
        others = 0 if falls[j] else others + 1
        times[j] = max(times[j], others)
    return times
