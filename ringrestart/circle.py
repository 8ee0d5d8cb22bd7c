"""Ways around the ring, for arguments that are already checked."""


def gap(n, i, j):
    """The distance from i to j, from 1 to n."""
    return (j - i - 1) % n + 1


def ends_behind(n, servers):
    """For every server the first of these servers behind it; they are ascending, and there is one at least."""
    places = []
    for j in servers:
        places.extend([j] * (j - len(places)))
    # Behind the last of them the ring goes on to the first one.
    places.extend([servers[0]] * (n - len(places)))
    return places


def batches_of(n, numbers):
    """The servers with equal numbers together, those with smaller numbers first."""
    batches = {number: [] for number in sorted(set(numbers))}
    for j in range(n):
        batches[numbers[j]].append(j)
    return list(batches.values())


def drops_in(when):
    """The servers with a smaller time than the server in front of them."""
    # when[-1] is the time of the last server, which stands in front of server 0.
    return [j for j in range(len(when)) if when[j] < when[j - 1]]


def places_at(n, when, k):
    """The servers at which the groups are after k batches, from the times of a round.

    A group that has left its server is at a drop directly behind it, or where the group of the server behind it is.
    """
    drop = 0
    while when[drop] >= when[drop - 1]:
        drop += 1
    places = [0] * n
    place = drop
    behind = when[drop]
    # Backwards around the ring, from the server in front of a drop; numbers below 0 are places from the end.
    for j in range(drop - 1, drop - 1 - n, -1):
        time = when[j]
        if time >= k:
            place = j % n
        elif behind < time:
            place = (j + 1) % n
        places[j] = place
        behind = time
    return places
