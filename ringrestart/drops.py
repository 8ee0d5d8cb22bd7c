"""Drops of a round, the ends that they lead to, and why other ends are impossible."""

from ringrestart.checks import need_assignment, need_drops, need_ring
from ringrestart.circle import drops_in, first_behind, gap
from ringrestart.errors import Impossible
from ringrestart.kinds import is_server
from ringrestart.rings import times


def drops_of(n, batches):
    """The servers that are restarted before the server in front of them."""
    return drops_in(times(n, batches))


def ends(n, drops):
    """The assignment for drops."""
    need_ring(n)
    need_drops(n, drops)
    return [first_behind(n, i, drops) for i in range(n)]


def possible(n, assignment):
    """Whether an assignment is the result of a round."""
    return reason(n, assignment) is None


def reason(n, assignment):
    """None if an assignment is the result of a round, else the first certificate that it is not."""
    need_ring(n)
    need_assignment(n, assignment)
    for i in range(n):
        for k in range(n):
            if _passed(n, assignment, i, k):
                return ("passed", i, k)
    if _all_end(n, assignment):
        return ("all",)
    return None


def shows(n, assignment, thing):
    """Whether thing is a true certificate, not necessarily the first one."""
    need_ring(n)
    need_assignment(n, assignment)
    if not isinstance(thing, tuple):
        return False
    if thing == ("all",):
        return _all_end(n, assignment)
    if len(thing) != 3 or thing[0] != "passed":
        return False
    _, i, k = thing
    return is_server(n, i) and is_server(n, k) and _passed(n, assignment, i, k)


def drops_from(n, assignment):
    """The drops of all rounds with this result."""
    why = reason(n, assignment)
    if why is not None:
        raise Impossible(why)
    return sorted(set(assignment))


def _passed(n, assignment, i, k):
    """Whether the end of group k lies strictly between i and the end of group i."""
    return gap(n, i, assignment[k]) < gap(n, i, assignment[i])


def _all_end(n, assignment):
    return len(set(assignment)) == n
