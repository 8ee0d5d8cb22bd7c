"""What an assignment says of F, the map of several rounds: its plateaus, and how many rounds can have it (R5).

The turns of the groups are not visible in an assignment. But F does not descend, so that the ends fix it up to turns
that all groups make together: each such turn adds n to the values of all plateaus.
"""


def plateaus_of(n, assignment):
    """The plateaus of the maps F with these ends; None if no number of rounds has such a map."""
    lasts = [i for i in range(n) if assignment[i] != assignment[(i + 1) % n]]
    if len(lasts) == n:
        return None
    if not lasts:
        # Then the one plateau may end anywhere. Here it ends where one round suffices, and so does any number of them.
        lasts = [(assignment[0] - 1) % n]
    values = [assignment[lasts[0]]]
    for i in lasts[1:]:
        values.append(values[-1] + (assignment[i] - values[-1]) % n)
    # While the groups go around the ring once, so do their ends.
    return Plateaus(n, lasts, values) if values[-1] < values[0] + n else None


class Plateaus:
    """The plateaus 0, 1, ... of one turn: their last places and, before any turns are added, their values."""

    def __init__(self, n, lasts, ends):
        self.n = n
        self.lasts = lasts
        self.ends = ends
        self.many = len(lasts)
        # R5 allows from low to high rounds; if low is greater than high, none.
        self.low = self._lowest()
        self.high = min([value - last for last, value in zip(lasts, ends)])

    def intervals(self):
        """All numbers of rounds, as (least, greatest); the last interval has None in the place of an end."""
        # With every turn the intervals become longer. So the first turns are those with which there is an interval
        # at all, and which reaches to 1; and where two intervals touch, all later ones do.
        turns = max(-((self.high - self.low) // (self.n - self.many)), -((self.high - 1) // self.n))
        found = []
        while self._greatest(turns) + 1 < self._least(turns + 1):
            found.append((max(1, self._least(turns)), self._greatest(turns)))
            turns += 1
        found.append((max(1, self._least(turns)), None))
        return found

    def allow(self, r):
        """Whether some r rounds have these ends."""
        return self._least(self._turns_for(r)) <= r

    def drops_in_round(self, r, s):
        """The drops of round s of some r rounds with these ends, if there are such rounds.

        Plateau k goes to the place directly behind it in the first round, then to where plateau k + 1 was before,
        and so on, as long as it must not go one place at a time to be at its value after the last round. So it always
        goes on, and never farther than to where the next plateau was: the drops are the places where they are.
        """
        to_go = r - s - self._turns_for(r) * self.n
        return sorted([min(self._last(k + s - 1) + 1, value - to_go) % self.n for k, value in enumerate(self.ends)])

    def _last(self, k):
        """The last place of plateau k, for all integers k."""
        return self.lasts[k % self.many] + k // self.many * self.n

    def _lowest(self):
        """The least r with value <= last place of plateau k + r - 1, plus 1, for all k."""
        lowest = 1 - self.many
        for k, value in enumerate(self.ends):
            while self._last(k + lowest - 1) + 1 < value:
                lowest += 1
        return lowest

    def _least(self, turns):
        """The least number of rounds after these turns: each turn leads over all plateaus."""
        return self.low + turns * self.many

    def _greatest(self, turns):
        """The greatest number of rounds after these turns: each turn leads over all servers."""
        return self.high + turns * self.n

    def _turns_for(self, r):
        """The fewest turns with which r rounds are not too many; more of them only need more rounds."""
        return -((self.high - r) // self.n)
