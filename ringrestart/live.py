"""The simulator: a ring whose servers are restarted batch by batch, with undo."""

from ringrestart.checks import need_number, need_ring, need_server, need_weights
from ringrestart.circle import gap
from ringrestart.errors import NoBatch, Nothing
from ringrestart.moments import first_moment
from ringrestart.shares import stop_share


class Ring:
    """Servers and their clients; the batches that hold, and the marks to which they can be undone."""

    def __init__(self, n, weights):
        need_ring(n)
        need_weights(n, weights)
        self.n = n
        self._batches = []
        # The moments before, between and behind the batches; the last one is now.
        self._moments = [first_moment(weights)]
        # For each mark the number of the batches that held.
        self._marks = []

    def restart(self, servers):
        """Restarts servers together."""
        now = self._moments[-1]
        if not now.allows(servers):
            raise NoBatch("a batch is an ascending list of servers that are still to come, but not of all servers")
        self._batches.append(list(servers))
        self._moments.append(now.behind(servers))

    def places(self):
        """The servers at which the groups are."""
        return list(self._moments[-1].where)

    def loads(self):
        """The loads of all servers."""
        return list(self._moments[-1].borne)

    def peak(self):
        """The greatest load that any server has had."""
        # Clients that are at one server stay together. So the greatest load has never become less.
        return max(self._moments[-1].borne)

    def round_number(self):
        """The number of complete rounds."""
        return self._moments[-1].complete

    def left(self):
        """The servers that are still to come in this round."""
        return [j for j, came in enumerate(self._moments[-1].came) if not came]

    def can_end(self, i):
        """The servers at which group i can be at the end of this round."""
        need_server(self.n, i)
        now = self._moments[-1]
        place = now.where[i]
        most = now.reach(i)
        if most == 0:
            return [place]
        return sorted([(place + steps) % self.n for steps in range(1, most + 1)])

    def chance_of(self, i, j):
        """The fraction of all orders of the servers that are left in which group i is at j at the end of this round."""
        need_server(self.n, i)
        need_server(self.n, j)
        now = self._moments[-1]
        place = now.where[i]
        most = now.reach(i)
        if most == 0:
            return (1, 1) if place == j else (0, 1)
        return stop_share(gap(self.n, place, j), most)

    def undo(self):
        """Undoes the last restart, and removes the marks that were made after it."""
        if not self._batches:
            raise Nothing("there is no restart to undo")
        self._keep(len(self._batches) - 1)
        self._marks = [held for held in self._marks if held <= len(self._batches)]

    def mark(self):
        """Makes a mark and returns its number."""
        self._marks.append(len(self._batches))
        return len(self._marks) - 1

    def undo_to(self, mark):
        """Restores what was so at a mark, and removes later marks."""
        need_number(mark, 0, len(self._marks) - 1)
        self._keep(self._marks[mark])
        del self._marks[mark + 1:]

    def history(self):
        """The batches that hold."""
        return [list(batch) for batch in self._batches]

    def __len__(self):
        return len(self._batches)

    def twin(self):
        """An independent copy, with the marks."""
        # The batches and the moments never change, so that only the lists of them are copied.
        other = Ring(self.n, self._moments[0].borne)
        other._batches = list(self._batches)
        other._moments = list(self._moments)
        other._marks = list(self._marks)
        return other

    def _keep(self, held):
        """Keeps so many batches and undoes the later ones."""
        del self._batches[held:]
        del self._moments[held + 1:]
