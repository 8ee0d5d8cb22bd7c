"""Drops under which no load at the end is greater than a limit, and not too many drops stand behind each other.

Drops cut the ring into arcs: the clients of an arc, from a drop to the server in front of the next drop, end
together. An arc of four servers or more can be cut once more, behind its second server: loads only become less, and
the new drop has no drop beside it. So a drop that is sought behind another one is at most three servers away.
"""

LONGEST_ARC = 3


def cuts_for(n, weights, limit, longest):
    """The ways to keep the limit with at most so many drops behind each other, for the least first drop that has some.

    None if there are none.
    """
    if max(weights) > limit:
        return None
    # Where the next drop can stand behind each drop, if the server directly behind it is none.
    after = [[q for q in range(p + 2, min(p + LONGEST_ARC + 1, n)) if sum(weights[p:q]) <= limit] for p in range(n)]
    for first in range(min(n, LONGEST_ARC)):
        cuts = Cuts(weights, limit, longest, first, after)
        if cuts.exist():
            return cuts
    return None


class Cuts:
    """The ways to go on from each drop to the last one, for one first drop.

    If server 0 is a drop, the drops at the beginning stand behind those at the end, which are the ones from some
    server to the last server of the list, without a gap. So the ways with the fewest drops at the end are kept;
    n of them means that there is no way.
    """

    def __init__(self, weights, limit, longest, first, after):
        self.n = len(weights)
        self.longest = longest
        self.first = first
        self.after = after
        # Whether each server may be the last drop.
        self.closes = [False] * self.n
        # The fewest drops at the end, if a sequence of drops begins with this server.
        self.begun = [self.n] * self.n
        # The same, if a sequence of drops ends with this server, which is not the last one of the list.
        self.ended = [self.n] * self.n
        load = sum(weights[:first])
        for p in range(self.n - 1, first - 1, -1):
            load += weights[p]
            self.closes[p] = load <= limit
            self._go_on(p)

    def exist(self):
        return len(self._last_ones(self.first, self.longest)) > 0

    def least(self):
        """The least drops, compared as lists: no further drop is best, then an early one."""
        drops = []
        begin = self.first
        at_end = self.longest
        while True:
            last = max(self._last_ones(begin, at_end))
            for p in range(begin, last + 1):
                drops.append(p)
                if self.closes[p]:
                    return drops
            at_end -= self._at_beginning(begin, last)
            begin = min([q for q in self.after[last] if self.begun[q] <= at_end])

    def _go_on(self, p):
        """Works out how few drops can be at the end; for the servers behind p that is done."""
        if p < self.n - 1:
            self.ended[p] = 0 if self.closes[p] else min([self.begun[q] for q in self.after[p]], default=self.n)
        self.begun[p] = min(self.ended[p:p + self.longest])
        if self.closes[self.n - 1] and self.n - p <= self.longest:
            self.begun[p] = min(self.begun[p], self.n - p)

    def _last_ones(self, begin, at_end):
        """Where a sequence of drops can end, if at most so many may be at the end, or at both ends of the list."""
        found = []
        for p in range(begin, min(begin + self.longest, self.n)):
            fewest = self.ended[p]
            if p == self.n - 1 and self.closes[p]:
                fewest = self.n - begin
            if fewest + self._at_beginning(begin, p) <= at_end:
                found.append(p)
        return found

    def _at_beginning(self, begin, last):
        """How many drops of this sequence stand at the beginning of the list."""
        return last + 1 if begin == 0 else 0
