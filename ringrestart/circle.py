"""Ways around the ring, for arguments that are already checked."""


def gap(n, i, j):
    """The distance from i to j, from 1 to n."""
    return (j - i - 1) % n + 1


def first_behind(n, i, servers):
    """The first of these servers that comes behind i; i itself comes last."""
    return min(servers, key=lambda j: gap(n, i, j))


def ends_behind(n, servers):
    """For every server the first of these servers behind it; they are ascending, and there is one at least."""
    places = []
    for j in servers:
        places.extend([j] * (j - len(places)))
    # Behind the last of them the ring goes on to the first one.
    places.extend([servers[0]] * (n - len(places)))
    return places


def batches_of(n, numbers):
    """The servers with equal numbers together, those with smaller numbers first."""
    batches = {number: [] for number in sorted(set(numbers))}
    for j in range(n):
        batches[numbers[j]].append(j)
    return list(batches.values())


def drops_in(when):
    """The servers with a smaller time than the server in front of them."""
    # when[-1] is the time of the last server, which stands in front of server 0.
    return [j for j in range(len(when)) if when[j] < when[j - 1]]


def clients_go(n, batch, place):
    """The server at which the clients of a place are after a batch; a batch is never all servers."""
    while place in batch:
        place = (place + 1) % n
    return place
