"""Drops of a round, the ends that they lead to, and why other ends are impossible."""

from ringrestart.checks import need_assignment, need_drops, need_ring, need_round
from ringrestart.circle import drops_in, ends_behind
from ringrestart.conflicts import first_conflict, is_conflict
from ringrestart.errors import Impossible


def drops_of(n, batches):
    """The servers that are restarted before the server in front of them."""
    need_ring(n)
    return drops_in(need_round(n, batches))


def ends(n, drops):
    """The assignment for drops."""
    need_ring(n)
    need_drops(n, drops)
    return ends_behind(n, drops)


def possible(n, assignment):
    """Whether an assignment is the result of a round."""
    return reason(n, assignment) is None


def reason(n, assignment):
    """None if an assignment is the result of a round, else the first certificate that it is not."""
    need_ring(n)
    need_assignment(n, assignment)
    # An assignment is an observation of all groups.
    return first_conflict(n, assignment)


def shows(n, assignment, thing):
    """Whether thing is a true certificate, not necessarily the first one."""
    need_ring(n)
    need_assignment(n, assignment)
    return is_conflict(n, assignment, thing)


def drops_from(n, assignment):
    """The drops of all rounds with this result."""
    why = reason(n, assignment)
    if why is not None:
        raise Impossible(why)
    return sorted(set(assignment))
