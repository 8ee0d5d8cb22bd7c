"""What an observation shows, in which only some of the groups are seen."""

from ringrestart.arcs import orders_with
from ringrestart.checks import need_observation, need_ring, need_server
from ringrestart.circle import ends_behind
from ringrestart.conflicts import first_conflict, is_conflict
from ringrestart.errors import Impossible
from ringrestart.shares import share


def fits(n, seen):
    """Whether some round has these ends."""
    return conflict(n, seen) is None


def conflict(n, seen):
    """None if some round fits, else the first certificate that none does."""
    need_ring(n)
    need_observation(n, seen)
    return first_conflict(n, seen)


def shows_conflict(n, seen, thing):
    """Whether thing is a true certificate, not necessarily the first one."""
    need_ring(n)
    need_observation(n, seen)
    return is_conflict(n, seen, thing)


def demands(n, seen):
    """The servers that are drops, and those that are none, in all rounds that fit."""
    marks = _settled(n, seen)
    return (_marked(marks, True), _marked(marks, False))


def fitting_drops(n, seen):
    """The least drops, compared as lists, of rounds that fit."""
    marks = _settled(n, seen)
    # One more drop makes the list less where a greater drop follows, but not behind the last one.
    last = max(_marked(marks, True), default=0)
    drops = [j for j in range(last + 1) if marks[j] is not False]
    if len(drops) == n:
        drops.remove(max(_marked(marks, None)))
    return drops


def drop_count(n, seen):
    """How many different drops the rounds that fit have."""
    if not fits(n, seen):
        return 0
    marks = _marks(n, seen)
    many = 1 << marks.count(None)
    # Drops are neither empty nor all servers.
    if True not in marks:
        many -= 1
    if False not in marks:
        many -= 1
    return many


def orders_left(n, seen):
    """How many orders fit."""
    need_ring(n)
    need_observation(n, seen)
    return _orders(n, seen)


def certain(n, seen):
    """The observation of all groups that have the same end in all rounds that fit."""
    marks = _settled(n, seen)
    # Whatever may be a drop is one in some round, so that a group is certain only if it cannot end before.
    nearest = ends_behind(n, [j for j in range(n) if marks[j] is not False])
    return [j if marks[j] else None for j in nearest]


def chance_given(n, seen, i, j):
    """The fraction of the orders that fit in which group i ends at j."""
    need_ring(n)
    need_observation(n, seen)
    need_server(n, i)
    need_server(n, j)
    _need_fit(n, seen)
    if seen[i] is not None:
        return (1, 1) if seen[i] == j else (0, 1)
    more = list(seen)
    more[i] = j
    return share(_orders(n, more), _orders(n, seen))


def _need_fit(n, seen):
    why = first_conflict(n, seen)
    if why is not None:
        raise Impossible(why)


def _orders(n, seen):
    if first_conflict(n, seen) is not None:
        return 0
    return orders_with(n, _marks(n, seen))


def _settled(n, seen):
    """What is the same in the drops of all rounds that fit: True for a drop, False for none, None where it differs."""
    need_ring(n)
    need_observation(n, seen)
    _need_fit(n, seen)
    marks = _marks(n, seen)
    # Not all servers are drops. (That one is a drop needs no rule: if any server is none, some end was seen.)
    if marks.count(True) == n - 1:
        return [mark is True for mark in marks]
    return marks


def _marks(n, seen):
    """What the ends that are seen ask for: True for each of them, False for the servers that their groups passed."""
    marks = [None] * n
    for j in seen:
        if j is not None:
            marks[j] = True
    for i in range(n):
        if seen[i] is not None:
            j = (i + 1) % n
            # What is marked already is the end of this group, or was passed on the way to it.
            while marks[j] is None:
                marks[j] = False
                j = (j + 1) % n
    return marks


def _marked(marks, mark):
    return [j for j in range(len(marks)) if marks[j] == mark]
