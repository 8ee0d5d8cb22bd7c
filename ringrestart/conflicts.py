"""Why no round has the ends that are seen. None stands for a group that is not seen; the rest is checked already."""

from ringrestart.circle import gap
from ringrestart.kinds import is_server


def first_conflict(n, seen):
    """The first certificate that no round has these ends; None if some round has them."""
    found = set(seen)
    found.discard(None)
    if not found:
        return None
    ends = sorted(found)
    at = 0
    nearest = ends[0]
    for i, end in enumerate(seen):
        if i == nearest:
            at = (at + 1) % len(ends)
            nearest = ends[at]
        # A group is passed by nobody exactly if it ends at the nearest end behind it.
        if end != nearest and end is not None:
            return ("passed", i, _first_to_pass(n, seen, i))
    if len(ends) == n:
        return ("all",)
    return None


def is_conflict(n, seen, thing):
    """Whether thing, any object, is a true certificate, not necessarily the first one."""
    if not isinstance(thing, tuple):
        return False
    if thing == ("all",):
        return len({j for j in seen if j is not None}) == n
    if len(thing) != 3 or thing[0] != "passed":
        return False
    _, i, k = thing
    return is_server(n, i) and is_server(n, k) and _passes(n, seen, i, k)


def _first_to_pass(n, seen, i):
    k = 0
    while not _passes(n, seen, i, k):
        k += 1
    return k


def _passes(n, seen, i, k):
    """Whether the end of group k lies strictly between i and the end of group i."""
    if seen[i] is None or seen[k] is None:
        return False
    return gap(n, i, seen[k]) < gap(n, i, seen[i])
