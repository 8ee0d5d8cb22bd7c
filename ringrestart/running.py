"""What a round does to the clients, batch by batch."""

from ringrestart.checks import need_number, need_ring, need_round, need_server
from ringrestart.circle import clients_go


def places_after(n, batches, k):
    """The servers at which the groups are after k batches."""
    need_ring(n)
    need_round(n, batches)
    need_number(k, 0, len(batches))
    return _places(n, batches[:k])


def run(n, batches):
    """The assignment that a round has as its result."""
    need_ring(n)
    need_round(n, batches)
    return _places(n, batches)


def moves(n, batches, i):
    """The servers at which group i is, in the order of time."""
    need_ring(n)
    need_round(n, batches)
    need_server(n, i)
    path = [i]
    for batch in batches:
        place = clients_go(n, batch, path[-1])
        if place != path[-1]:
            path.append(place)
    return path


def _places(n, batches):
    places = list(range(n))
    for batch in batches:
        places = [clients_go(n, batch, place) for place in places]
    return places
