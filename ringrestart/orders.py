"""Orders: how many have the same drops, their numbers, and the chances of the ends."""

from heapq import heappop, heappush

from ringrestart.arcs import ring_count
from ringrestart.checks import need_drops, need_number, need_order, need_ring, need_server
from ringrestart.choices import Choices
from ringrestart.circle import drops_in, gap
from ringrestart.shares import stop_share


def order_count(n, drops):
    """How many orders have these drops."""
    need_ring(n)
    need_drops(n, drops)
    return ring_count(n, drops)


def least_order(n, drops):
    """The least order with these drops."""
    need_ring(n)
    need_drops(n, drops)
    later = [[] for _ in range(n)]
    waits = [0] * n
    for j in range(n):
        # A drop is restarted before the server in front of it, any other server after it.
        before, after = (j, (j - 1) % n) if j in drops else ((j - 1) % n, j)
        later[before].append(after)
        waits[after] += 1
    ready = [j for j in range(n) if waits[j] == 0]
    order = []
    while ready:
        least = heappop(ready)
        order.append(least)
        for j in later[least]:
            waits[j] -= 1
            if waits[j] == 0:
                heappush(ready, j)
    return order


def nth_order(n, drops, number):
    """The order with a number among those with these drops, which are in ascending order."""
    need_ring(n)
    need_drops(n, drops)
    choices = Choices(n, drops)
    need_number(number, 0, choices.many - 1)
    order = []
    while len(order) < n:
        for j, many in choices.next_ones():
            if number < many:
                break
            number -= many
        order.append(j)
        choices.take(j)
    return order


def order_number(n, order):
    """The number of an order among those with its drops."""
    need_ring(n)
    need_order(n, order)
    when = [0] * n
    for k, j in enumerate(order):
        when[j] = k
    choices = Choices(n, drops_in(when))
    number = 0
    for taken in order:
        number += sum([many for j, many in choices.next_ones() if j < taken])
        choices.take(taken)
    return number


def counts_by_drops(n):
    """The numbers of orders with 1, 2, ..., n - 1 drops."""
    need_ring(n)
    # Turned so that the last server to restart stands last, the others are a line, with one drop less than the ring.
    counts = [1]
    for many in range(2, n):
        counts = [(k + 1) * same + (many - k) * less
                  for k, (same, less) in enumerate(zip(counts + [0], [0] + counts))]
    return [n * count for count in counts]


def chance(n, i, j):
    """The fraction of all orders in which group i ends at j."""
    need_ring(n)
    need_server(n, i)
    need_server(n, j)
    # At the beginning of a round all servers are still to come; after a full turn the group cannot go on.
    return stop_share(gap(n, i, j), n)
