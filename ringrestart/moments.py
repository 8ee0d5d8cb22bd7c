"""The moments of a live ring: what is so between two batches."""

from ringrestart.circle import ends_behind
from ringrestart.kinds import drops_ok


def first_moment(weights):
    """The beginning: all groups are at their own servers."""
    n = len(weights)
    return Moment(list(range(n)), list(weights), [False] * n, 0)


class Moment:
    """What is so between two batches. It never changes, so that rings may share it."""

    def __init__(self, where, borne, came, complete):
        self.n = len(where)
        # The server at which each group is, and the load of each server.
        self.where = where
        self.borne = borne
        # Whether each server was restarted in this round, and the number of complete rounds.
        self.came = came
        self.complete = complete

    def allows(self, servers):
        """Whether servers, any object, can be restarted together now."""
        # Like drops, a batch is an ascending list of servers, neither empty nor all of them.
        return drops_ok(self.n, servers) and not any([self.came[j] for j in servers])

    def behind(self, batch):
        """The moment after the restart of a batch."""
        down = set(batch)
        ends = ends_behind(self.n, [j for j in range(self.n) if j not in down])
        where = [ends[j] if j in down else j for j in self.where]
        borne = list(self.borne)
        came = list(self.came)
        for j in batch:
            borne[ends[j]] += borne[j]
            borne[j] = 0
            came[j] = True
        if False in came:
            return Moment(where, borne, came, self.complete)
        return Moment(where, borne, [False] * self.n, self.complete + 1)

    def reach(self, i):
        """How many servers group i can still go at most in this round."""
        steps = 0
        # It stops at a server that was restarted. If there is none so far, that is its own one, after a full turn.
        while steps < self.n and not self.came[(self.where[i] + steps) % self.n]:
            steps += 1
        return steps
