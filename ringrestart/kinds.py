"""What an object is: an integer, a server, a round, drops, weights and so on. n is a valid ring here."""

FEWEST_SERVERS = 2
MOST_SERVERS = 60
MOST_WEIGHT = 10 ** 30


def is_integer(thing):
    # Python counts True and False as integers, the program does not.
    return isinstance(thing, int) and not isinstance(thing, bool)


def is_ring(thing):
    # Here and below is_integer is written out: the calls would take most of the time of short functions.
    return isinstance(thing, int) and not isinstance(thing, bool) and FEWEST_SERVERS <= thing <= MOST_SERVERS


def is_server(n, thing):
    return isinstance(thing, int) and not isinstance(thing, bool) and 0 <= thing < n


def times_in(n, thing):
    """The list of the times of all servers if thing is a round, else None."""
    # Each batch has a server that no other one has. So the many batches that some objects have are not looked at.
    if not isinstance(thing, list) or not 2 <= len(thing) <= n:
        return None
    # A time of n stands for a server that is in no batch so far.
    when = [n] * n
    for k, batch in enumerate(thing):
        if not isinstance(batch, list) or len(batch) == 0:
            return None
        last = -1
        for j in batch:
            if not isinstance(j, int) or isinstance(j, bool) or j <= last or j >= n or when[j] < n:
                return None
            when[j] = k
            last = j
    return None if n in when else when


def numbers_ok(n, thing):
    if not isinstance(thing, list) or len(thing) != n:
        return False
    return all([is_integer(each) for each in thing]) and len(set(thing)) > 1


def drops_ok(n, thing):
    if not isinstance(thing, list) or not 0 < len(thing) < n:
        return False
    last = -1
    for j in thing:
        if not isinstance(j, int) or isinstance(j, bool) or j <= last or j >= n:
            return False
        last = j
    return True


def groups_ok(n, thing):
    """Whether it is an ascending list of groups; a group is named like its server."""
    if not isinstance(thing, list):
        return False
    return all([is_server(n, i) for i in thing]) and sorted(set(thing)) == thing


def assignment_ok(n, thing):
    if not isinstance(thing, list) or len(thing) != n:
        return False
    for j in thing:
        if not isinstance(j, int) or isinstance(j, bool) or j < 0 or j >= n:
            return False
    return True


def order_ok(n, thing):
    # n servers, no two of them equal, are all servers.
    return assignment_ok(n, thing) and len(set(thing)) == n


def weights_ok(n, thing):
    if not isinstance(thing, list) or len(thing) != n:
        return False
    for weight in thing:
        if not isinstance(weight, int) or isinstance(weight, bool) or weight < 0 or weight > MOST_WEIGHT:
            return False
    return True


def observation_ok(n, thing):
    if not isinstance(thing, list) or len(thing) != n:
        return False
    for j in thing:
        if j is not None and (not isinstance(j, int) or isinstance(j, bool) or j < 0 or j >= n):
            return False
    return True
