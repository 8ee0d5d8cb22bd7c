"""Loads of the servers, and rounds that keep them low."""

from ringrestart.checks import need_at_least, need_number, need_ring, need_round, need_weights
from ringrestart.circle import places_at
from ringrestart.cuts import LONGEST_ARC, cuts_for


def loads_after(n, batches, weights, k):
    """The loads of all servers after k batches."""
    need_ring(n)
    when = need_round(n, batches)
    need_weights(n, weights)
    need_number(k, 0, len(batches))
    loads = [0] * n
    for place, weight in zip(places_at(n, when, k), weights):
        loads[place] += weight
    return loads


def least_greatest(n, weights, most):
    """The least possible greatest load at the end of a round with at most so many batches."""
    need_ring(n)
    need_weights(n, weights)
    need_at_least(most, 2)
    longest = _longest(n, most)
    limits = _possible_limits(n, weights)
    at = _least_number(0, len(limits) - 1, lambda k: cuts_for(n, weights, limits[k], longest) is not None)
    return limits[at]


def best_drops(n, weights, most):
    """The least drops that reach it."""
    limit = least_greatest(n, weights, most)
    return cuts_for(n, weights, limit, _longest(n, most)).least()


def fewest_for(n, weights, limit):
    """The fewest batches of a round at whose end no load is greater than limit; None if there is no such round."""
    need_ring(n)
    need_weights(n, weights)
    need_at_least(limit, 0)
    if cuts_for(n, weights, limit, n - 1) is None:
        return None
    return 1 + _least_number(1, n - 1, lambda longest: cuts_for(n, weights, limit, longest) is not None)


def _longest(n, most):
    """How many drops may stand behind each other; not all servers are drops."""
    return min(most, n) - 1


def _possible_limits(n, weights):
    """The greatest load is that of an arc of one, two or three servers; ascending."""
    twice = weights + weights
    return sorted({sum(twice[i:i + length]) for length in range(1, min(n, LONGEST_ARC) + 1) for i in range(n)})


def _least_number(low, high, holds):
    """The least number from low to high for which it holds; it holds for high and for all behind the least one."""
    while low < high:
        middle = (low + high) // 2
        if holds(middle):
            high = middle
        else:
            low = middle + 1
    return low
