"""Several rounds: where the groups end, how many rounds lead to given ends, and which ones."""

from ringrestart.checks import need_assignment, need_at_least, need_drops, need_number, need_ring, need_rounds
from ringrestart.circle import drops_in, ends_behind
from ringrestart.errors import Impossible
from ringrestart.kinds import groups_ok
from ringrestart.plateaus import plateaus_of


def after(n, rounds):
    """The assignment after several rounds."""
    need_ring(n)
    places = list(range(n))
    for when in need_rounds(n, rounds):
        ends = ends_behind(n, drops_in(when))
        places = [ends[j] for j in places]
    return places


def repeated(n, drops, r):
    """The assignment after r rounds with the same drops."""
    need_ring(n)
    need_drops(n, drops)
    need_at_least(r, 0)
    if r == 0:
        return list(range(n))
    # The first round leads to a drop, each other one to the next drop.
    first = (r - 1) % len(drops)
    later = dict(zip(drops, drops[first:] + drops[:first]))
    return [later[j] for j in ends_behind(n, drops)]


def all_rounds(n, assignment):
    """All numbers of rounds that have this result, as intervals (least, greatest); None if there is no greatest."""
    need_ring(n)
    need_assignment(n, assignment)
    plateaus = plateaus_of(n, assignment)
    return [] if plateaus is None else plateaus.intervals()


def possible_after(n, assignment, r):
    """Whether some r rounds have this result."""
    need_ring(n)
    need_assignment(n, assignment)
    need_at_least(r, 1)
    plateaus = plateaus_of(n, assignment)
    return plateaus is not None and plateaus.allow(r)


def reason_after(n, assignment):
    """None if some number of rounds has this result, else a certificate that none has it."""
    need_ring(n)
    need_assignment(n, assignment)
    if _all_are_ends(n, assignment):
        return ("all",)
    groups = _groups_around(n, assignment)
    return None if groups is None else ("around", groups)


def shows_after(n, assignment, thing):
    """Whether thing is a true certificate, not necessarily the one of reason_after."""
    need_ring(n)
    need_assignment(n, assignment)
    if not isinstance(thing, tuple):
        return False
    if thing == ("all",):
        return _all_are_ends(n, assignment)
    return len(thing) == 2 and thing[0] == "around" and _go_around(n, assignment, thing[1])


def plan(n, assignment, r, s):
    """The drops of round s of some r rounds with this result."""
    need_ring(n)
    need_assignment(n, assignment)
    need_at_least(r, 1)
    need_number(s, 1, r)
    plateaus = plateaus_of(n, assignment)
    if plateaus is None:
        raise Impossible(("rounds", []))
    if not plateaus.allow(r):
        raise Impossible(("rounds", plateaus.intervals()))
    return plateaus.drops_in_round(r, s)


def _all_are_ends(n, assignment):
    return len(set(assignment)) == n


def _groups_around(n, assignment):
    """Three or four groups whose ends go around the ring more than once; None if the ends of all groups do not."""
    ahead = [(j - assignment[0]) % n for j in assignment]
    for i in range(1, n - 1):
        if ahead[i] > ahead[i + 1] > 0:
            return [0, i, i + 1]
        if ahead[i] > ahead[i + 1]:
            # Here the ends have gone around once. So no later one may leave the end of group 0 again.
            leaving = [k for k in range(i + 2, n) if ahead[k] > 0]
            return [0, i, i + 1, leaving[0]] if leaving else None
    return None


def _go_around(n, assignment, groups):
    """Whether groups, any object, is an ascending list of three or more groups whose ends go around more than once."""
    if not groups_ok(n, groups) or len(groups) < 3:
        return False
    return sum([(assignment[j] - assignment[i]) % n for i, j in zip(groups, groups[1:] + groups[:1])]) >= 2 * n
