"""What an object is: an integer, a server, a round, drops, weights and so on. n is a valid ring here."""

FEWEST_SERVERS = 2
MOST_SERVERS = 60
MOST_WEIGHT = 10 ** 30


def is_integer(thing):
    # Python counts True and False as integers, the program does not.
    return isinstance(thing, int) and not isinstance(thing, bool)


def is_ring(thing):
    return is_integer(thing) and FEWEST_SERVERS <= thing <= MOST_SERVERS


def is_server(n, thing):
    return is_integer(thing) and 0 <= thing < n


def are_servers(n, thing):
    return isinstance(thing, list) and all([is_server(n, each) for each in thing])


def is_ascending(numbers):
    return all([low < high for low, high in zip(numbers, numbers[1:])])


def is_batch(n, thing):
    return are_servers(n, thing) and len(thing) > 0 and is_ascending(thing)


def round_ok(n, thing):
    if not isinstance(thing, list) or len(thing) < 2:
        return False
    if not all([is_batch(n, batch) for batch in thing]):
        return False
    return sorted([j for batch in thing for j in batch]) == list(range(n))


def numbers_ok(n, thing):
    if not isinstance(thing, list) or len(thing) != n:
        return False
    return all([is_integer(each) for each in thing]) and len(set(thing)) > 1


def drops_ok(n, thing):
    return is_batch(n, thing) and len(thing) < n


def assignment_ok(n, thing):
    return are_servers(n, thing) and len(thing) == n


def order_ok(n, thing):
    return are_servers(n, thing) and len(thing) == n and len(set(thing)) == n


def weights_ok(n, thing):
    if not isinstance(thing, list) or len(thing) != n:
        return False
    return all([is_integer(each) and 0 <= each <= MOST_WEIGHT for each in thing])


def observation_ok(n, thing):
    if not isinstance(thing, list) or len(thing) != n:
        return False
    return all([each is None or is_server(n, each) for each in thing])
