"""What an assignment says of F, the map of several rounds: its plateaus, and how many rounds can have it (R5).

The turns of the groups are not visible in an assignment. But F does not descend, so that the ends fix it up to turns
that all groups make together: each such turn adds n to the values of all plateaus.
"""


def plateaus_of(n, assignment):
    """The plateaus of the maps F with these ends; None if no number of rounds has such a map."""
    lasts = [i for i in range(n) if assignment[i] != assignment[(i + 1) % n]]
    if len(lasts) == n:
        return None
    if not lasts:
        # Then the one plateau may end anywhere. Here it ends where one round suffices, and so does any number of them.
        lasts = [(assignment[0] - 1) % n]
    values = [assignment[lasts[0]]]
    for i in lasts[1:]:
        values.append(values[-1] + (assignment[i] - values[-1]) % n)
    # While the groups go around the ring once, so do their ends.
    return Plateaus(n, lasts, values) if values[-1] < values[0] + n else None


class Plateaus:
    """The plateaus 0, 1, ... of one turn: their last places and, before any turns are added, their values."""

    def __init__(self, n, lasts, ends):
        self.n = n
        self.lasts = lasts
        self.ends = ends
        self.many = len(lasts)
        # R5 allows from low to high rounds; if low is greater than high, none.
        self.low = self._lowest()
        self.high = min([value - last for last, value in zip(lasts, ends)])

    def intervals(self):
        """All numbers of rounds, as (least, greatest); the last interval has None in the place of an end."""
        # Every turn makes the interval longer by n - many, so that there is one from some number of turns on. None
        # reaches below 1: if R5 held for r < 1, every plateau would have one server only.
        turns = -((self.high - self.low) // (self.n - self.many))
        found = []
        # Where two intervals touch, all later ones do.
        while self._greatest(turns) + 1 < self._least(turns + 1):
            found.append((self._least(turns), self._greatest(turns)))
            turns += 1
        found.append((self._least(turns), None))
        return found

    def allow(self, r):
        """Whether some r rounds have these ends."""
        return self._least(self._turns_for(r)) <= r

    def drops_in_round(self, r, s):
        """The drops of round s of some r rounds with these ends, if there are such rounds.

        After round s plateau k is directly behind the last place of plateau k + s - 1, or where it is r - s places to
        its value, if that comes first. So it goes on in every round, and at most to where plateau k + 1 was before:
        the drops of a round are the places of the plateaus after it.
        """
        to_go = r - s - self._turns_for(r) * self.n
        return sorted([min(last + 1, value - to_go) % self.n
                       for last, value in zip(self._lasts_from(s - 1), self.ends)])

    def _lasts_from(self, k):
        """The last places of one turn of plateaus, from plateau k on; k may be any integer."""
        turns, first = divmod(k, self.many)
        here = turns * self.n
        return [here + last for last in self.lasts[first:]] + [here + self.n + last for last in self.lasts[:first]]

    def _lowest(self):
        """The least r with value <= last place of plateau k + r - 1, plus 1, for all k."""
        # From plateau -many on, which ends at -1 or before, to one that ends behind all values.
        line = [turn * self.n + last for turn in range(-1, 3) for last in self.lasts]
        skipped = 0
        for k, value in enumerate(self.ends):
            while line[k + skipped] + 1 < value:
                skipped += 1
        return skipped + 1 - self.many

    def _least(self, turns):
        """The least number of rounds after these turns: each turn leads over all plateaus."""
        return self.low + turns * self.many

    def _greatest(self, turns):
        """The greatest number of rounds after these turns: each turn leads over all servers."""
        return self.high + turns * self.n

    def _turns_for(self, r):
        """The fewest turns with which r rounds are not too many; more of them only need more rounds."""
        return -((self.high - r) // self.n)
