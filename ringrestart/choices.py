"""An order with given drops, made server by server."""

from math import comb

from ringrestart.arcs import arc_count, arc_counts


class Choices:
    """Which server may be next, and how many orders go on with it.

    The servers that are still to come stand in arcs between those that were taken. An order of all of them is an
    order of each arc and a way to share the times among the arcs.
    """

    def __init__(self, n, drops):
        self.n = n
        # Twice around the ring, so that an arc over its end is a slice.
        self.falls = [j in drops for j in range(n)] * 2
        self.remaining = n
        # Each server that may be next, with the arc that it stands in (first server and length), how many orders
        # of this arc begin with it, and how many orders the arc has.
        self.options = {}
        # How many orders go on from here.
        self.many = 0
        self._open_ring()

    def next_ones(self):
        """The servers that may be next, ascending, each with the number of orders that go on with it."""
        return [(j, self._many_with(j)) for j in sorted(self.options)]

    def take(self, j):
        """Goes on with this server, which cuts its arc in two."""
        first, length = self.options[j][:2]
        self.many = self._many_with(j)
        self.remaining -= 1
        self.options = {k: self.options[k] for k in self.options if (k - first) % self.n >= length}
        before = (j - first) % self.n
        self._open_arc(first, before)
        self._open_arc((j + 1) % self.n, length - before - 1)

    def _many_with(self, j):
        # The next time falls to an arc as often as it has servers, and then to each server that may begin its order.
        _, length, beginning, whole = self.options[j]
        return self.many * length * beginning // (self.remaining * whole)

    def _open_ring(self):
        # The ring may be cut anywhere: for each server that may be next it is an arc that begins with this server.
        n = self.n
        counts = {}
        for j in range(n):
            if self.falls[j] and not self.falls[j + 1]:
                counts[j] = arc_count(self.falls[j + 2:j + n])
        self.many = sum(counts.values())
        self.options = {j: (j, n, counts[j], self.many) for j in counts}

    def _open_arc(self, first, length):
        if length == 0:
            return
        falls = self.falls[first + 1:first + length]
        front = arc_counts(falls)
        # Seen from behind, drops and others change their parts, which does not change the numbers.
        back = arc_counts(falls[::-1])
        for before in range(length):
            # A server may be next in its arc if it comes before both of its neighbours there.
            if (before == 0 or falls[before - 1]) and (before == length - 1 or not falls[before]):
                beginning = comb(length - 1, before) * front[before] * back[length - 1 - before]
                self.options[(first + before) % self.n] = (first, length, beginning, front[length])
