"""What a round does to the clients, batch by batch."""

from ringrestart.checks import need_number, need_ring, need_round, need_server
from ringrestart.circle import places_at


def places_after(n, batches, k):
    """The servers at which the groups are after k batches."""
    need_ring(n)
    when = need_round(n, batches)
    need_number(k, 0, len(batches))
    return places_at(n, when, k)


def run(n, batches):
    """The assignment that a round has as its result."""
    need_ring(n)
    when = need_round(n, batches)
    return places_at(n, when, len(batches))


def moves(n, batches, i):
    """The servers at which group i is, in the order of time."""
    need_ring(n)
    when = need_round(n, batches)
    need_server(n, i)
    path = [i]
    place = i
    time = when[i]
    while True:
        place = (place + 1) % n
        if when[place] != time:
            path.append(place)
            # A server that was restarted before does not go down again in this round.
            if when[place] < time:
                return path
            time = when[place]
