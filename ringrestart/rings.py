"""Rounds, drops and assignments of a ring, distances and times."""

from ringrestart.checks import need_numbers, need_ring, need_round, need_server
from ringrestart.circle import batches_of, gap
from ringrestart.kinds import assignment_ok, drops_ok, times_in


def is_round(n, thing):
    need_ring(n)
    return times_in(n, thing) is not None


def is_drops(n, thing):
    need_ring(n)
    return drops_ok(n, thing)


def is_assignment(n, thing):
    need_ring(n)
    return assignment_ok(n, thing)


def distance(n, i, j):
    need_ring(n)
    need_server(n, i)
    need_server(n, j)
    return gap(n, i, j)


def times(n, batches):
    """The list of the indexes of the batches of all servers."""
    need_ring(n)
    return need_round(n, batches)


def round_of(n, numbers):
    """The round in which smaller numbers come first and equal numbers are together."""
    need_ring(n)
    need_numbers(n, numbers)
    return batches_of(n, numbers)
