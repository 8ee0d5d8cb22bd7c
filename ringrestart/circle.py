"""Ways around the ring, for arguments that are already checked."""


def gap(n, i, j):
    """The distance from i to j, from 1 to n."""
    return (j - i - 1) % n + 1


def first_behind(n, i, servers):
    """The first of these servers that comes behind i; i itself comes last."""
    return min(servers, key=lambda j: gap(n, i, j))


def clients_go(n, batch, place):
    """The server at which the clients of a place are after a batch; a batch is never all servers."""
    while place in batch:
        place = (place + 1) % n
    return place
