"""How many orders there are, if it is given for some servers whether they are drops.

An arc is a sequence of servers, each directly behind the one before it. The orders in which the servers of each of
its parts are restarted in the direction of the ring, whatever happens where two parts meet, are as many as there are
ways to share the times among the parts. How many of them have a drop at each of these cuts follows by inclusion and
exclusion: a cut that is made counts with the other sign than one that is not made.
"""

from math import comb


def arc_count(falls):
    """How many orders an arc has; falls tells of each server behind the first one whether it is a drop."""
    cuts = _rarer(falls)
    signed = _signed([0] + cuts + [len(falls) + 1])
    return signed if len(cuts) % 2 == 1 else -signed


def arc_counts(falls):
    """How many orders the first 0, 1, 2, ... servers of an arc have, up to all of them."""
    cuts = _rarer(falls)
    places = [0]
    values = [1]
    counts = [1]
    for many in range(1, len(falls) + 2):
        value = _next_signed(places, values, many)
        counts.append(value if len(places) % 2 == 0 else -value)
        if len(places) <= len(cuts) and cuts[len(places) - 1] == many:
            places.append(many)
            values.append(value)
    return counts


def ring_count(n, drops):
    """How many orders of the whole ring have exactly these drops."""
    # Backwards in time, drops and other servers change their parts.
    cuts = drops if 2 * len(drops) <= n else [j for j in range(n) if j not in drops]
    total = 0
    for at, first in enumerate(cuts):
        # The ways with this one as the first cut: there the ring becomes an arc.
        total += _signed([j - first for j in cuts[at:]] + [n])
    return total if len(cuts) % 2 == 0 else -total


def orders_with(n, marks):
    """How many orders have a drop at each server marked True and none at each marked False; None leaves it open."""
    free = [j for j in range(n) if marks[j] is None]
    if not free:
        return ring_count(n, [j for j in range(n) if marks[j]])
    twice = marks + marks
    many = 1
    left = n
    # A free server is not compared with the one in front of it, so that an arc begins with it.
    for first, behind in zip(free, free[1:] + [free[0] + n]):
        many *= comb(left, behind - first) * arc_count(twice[first + 1:behind])
        left -= behind - first
    return many


def _rarer(falls):
    """Where to cut the arc: at the drops or at the others, which may change their parts; fewer cuts are less work."""
    rarer = 2 * falls.count(True) <= len(falls)
    return [at for at, fall in enumerate(falls, start=1) if fall == rarer]


def _signed(places):
    """The sum over all ways to cut an arc at some of these places; the first one is 0, the last one its length."""
    values = [1]
    for at in places[1:]:
        value = _next_signed(places, values, at)
        values.append(value)
    return values[-1]


def _next_signed(places, values, at):
    """The sum for the first servers of an arc, from those for fewer servers: the last part begins at each place."""
    return -sum([comb(at, place) * value for place, value in zip(places, values)])
