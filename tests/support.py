"""What the tests share: strict comparisons, the names of the interface, and plain searches.

Nothing here uses how the package works inside: the plain searches follow the definitions of the document.
"""

import copy
import itertools
import random
import unittest

from ringrestart import batches, drops, errors, loads, orders, partial, rings, rounds, running, session, texts

BIG = 10 ** 90 - 1

FUNCTIONS = {
    rings.is_round: ("n", "thing"),
    rings.is_drops: ("n", "thing"),
    rings.is_assignment: ("n", "thing"),
    rings.distance: ("n", "i", "j"),
    rings.times: ("n", "batches"),
    rings.round_of: ("n", "numbers"),
    running.places_after: ("n", "batches", "k"),
    running.run: ("n", "batches"),
    running.moves: ("n", "batches", "i"),
    drops.drops_of: ("n", "batches"),
    drops.ends: ("n", "drops"),
    drops.possible: ("n", "assignment"),
    drops.reason: ("n", "assignment"),
    drops.shows: ("n", "assignment", "thing"),
    drops.drops_from: ("n", "assignment"),
    batches.fewest_batches: ("n", "drops"),
    batches.longest_run: ("n", "drops"),
    batches.round_in_batches: ("n", "drops"),
    batches.fewest_apart: ("n", "drops"),
    batches.round_apart: ("n", "drops"),
    orders.order_count: ("n", "drops"),
    orders.least_order: ("n", "drops"),
    orders.nth_order: ("n", "drops", "number"),
    orders.order_number: ("n", "order"),
    orders.counts_by_drops: ("n",),
    orders.chance: ("n", "i", "j"),
    loads.loads_after: ("n", "batches", "weights", "k"),
    loads.least_greatest: ("n", "weights", "most"),
    loads.best_drops: ("n", "weights", "most"),
    loads.fewest_for: ("n", "weights", "limit"),
    partial.fits: ("n", "seen"),
    partial.conflict: ("n", "seen"),
    partial.shows_conflict: ("n", "seen", "thing"),
    partial.demands: ("n", "seen"),
    partial.fitting_drops: ("n", "seen"),
    partial.drop_count: ("n", "seen"),
    partial.orders_left: ("n", "seen"),
    partial.certain: ("n", "seen"),
    partial.chance_given: ("n", "seen", "i", "j"),
    rounds.after: ("n", "rounds"),
    rounds.repeated: ("n", "drops", "r"),
    rounds.all_rounds: ("n", "assignment"),
    rounds.possible_after: ("n", "assignment", "r"),
    rounds.reason_after: ("n", "assignment"),
    rounds.shows_after: ("n", "assignment", "thing"),
    rounds.plan: ("n", "assignment", "r", "s"),
    texts.write_round: ("batches",),
    texts.read_round: ("text",),
    texts.write_servers: ("servers",),
    texts.read_servers: ("text",),
    texts.write_seen: ("seen",),
    texts.read_seen: ("text",),
    session.session: ("rows",),
}

NO_RINGS = [1, 0, -1, -2, -60, 61, 62, 100, BIG, -BIG]

# Objects that are no list at all.
NO_LISTS = [
    None, True, False, 0, 1, 2, -1, BIG, -BIG, "", "0", "01", "012", "[[0], [1]]", "0 / 1", "\n",
    (), (0,), (0, 1), (0, 1, 2), (2, 2, 0), ([0], [1]), ([0], [1, 2]), ([1], [2], [0]), ((0,), (1,)), ((0, 2), (1,)),
    {}, {"0": 0}, {"0": [0], "1": [1]}, {"0": 0, "1": 1, "2": 2}, ("all",), ("passed", 0, 1),
]

# What is no server in any ring.
NO_SERVERS_INSIDE = [
    -1, -2, -60, 60, 61, BIG, -BIG, True, False, None, "", "0", "1", (), (0,), [], [0], [1], {}, {"0": 0},
]


def lists_in(value):
    """All lists in a value, the value included."""
    if isinstance(value, list):
        return [value] + [found for part in value for found in lists_in(part)]
    if isinstance(value, tuple):
        return [found for part in value for found in lists_in(part)]
    if isinstance(value, dict):
        return [found for part in value.values() for found in lists_in(part)]
    return []


def spoil(value):
    """Changes all lists in a value."""
    for each in lists_in(value):
        each.clear()
        each.extend(["spoiled", -7])


class RingCase(unittest.TestCase):

    def same(self, expected, found):
        # The texts differ where Python takes True for 1, or where a tuple stands in the place of a list.
        self.assertEqual(repr(expected), repr(found))

    def gives(self, expected, function, *arguments):
        """By position and by name, with new lists and unchanged arguments, whatever happened to earlier results."""
        names = FUNCTIONS[function]
        before = repr(arguments)
        results = []
        for _ in range(2):
            results.append(function(*arguments))
            results.append(function(**dict(zip(names, arguments))))
            results.append(function(**dict(reversed(list(zip(names, arguments))))))
        for result in results:
            self.same(expected, result)
        self.assertEqual(before, repr(arguments))
        lists = lists_in(results)
        self.assertEqual(len(lists), len({id(each) for each in lists}))
        given = {id(each) for each in lists_in(arguments)}
        self.assertFalse([each for each in lists if id(each) in given])
        spoil(results)
        self.assertEqual(before, repr(arguments))
        self.same(expected, function(*arguments))

    def fails(self, error, function, *arguments):
        """By position and by name, with the very class and unchanged arguments; returns the error."""
        names = FUNCTIONS[function]
        before = repr(arguments)
        with self.assertRaises(ValueError) as by_position:
            function(*arguments)
        with self.assertRaises(ValueError) as by_name:
            function(**dict(zip(names, arguments)))
        for caught in (by_position.exception, by_name.exception):
            self.assertIs(error, type(caught))
            self.assertIsInstance(caught, errors.RingError)
        self.assertEqual(before, repr(arguments))
        return by_position.exception


# Plain searches

def all_orders(n):
    """All orders of a small ring, ascending."""
    return [list(order) for order in itertools.permutations(range(n))]


def orders_by_drops(n):
    """All drops of a small ring, as tuples, each with all its orders, ascending."""
    found = {}
    for order in all_orders(n):
        found.setdefault(tuple(plain_drops(n, [[j] for j in order])), []).append(order)
    return found


def all_rounds(n):
    """All rounds of a small ring."""
    found = []
    for times in itertools.product(range(n), repeat=n):
        many = max(times) + 1
        if many >= 2 and len(set(times)) == many:
            found.append([[j for j in range(n) if times[j] == k] for k in range(many)])
    return found


def all_drops(n):
    return [list(some) for many in range(1, n) for some in itertools.combinations(range(n), many)]


def all_assignments(n):
    return [list(some) for some in itertools.product(range(n), repeat=n)]


def walked(n, i, j):
    """The distance, step by step."""
    steps = 1
    while (i + steps) % n != j:
        steps += 1
    return steps


def plain_times(n, batches):
    return [[j in batch for batch in batches].index(True) for j in range(n)]


def plain_drops(n, batches):
    when = plain_times(n, batches)
    return [j for j in range(n) if when[j] < when[(j - 1) % n]]


def plain_places(n, batches, k):
    """All groups as clients of their servers, moved batch by batch."""
    clients = {j: [j] for j in range(n)}
    for batch in batches[:k]:
        for j in batch:
            behind = [(j + step) % n for step in range(1, n) if (j + step) % n not in batch]
            clients[behind[0]] = clients[behind[0]] + clients[j]
            clients[j] = []
    return [[j for j in range(n) if i in clients[j]][0] for i in range(n)]


def plain_walk(n, batches, i):
    """The servers at which group i is after 0, 1, 2, ... batches, up to all of them."""
    walk = [i]
    for batch in batches:
        place = walk[-1]
        while place in batch:
            place = (place + 1) % n
        walk.append(place)
    return walk


def plain_moves(n, batches, i):
    path = [plain_places(n, batches, k)[i] for k in range(len(batches) + 1)]
    return [path[0]] + [here for before, here in zip(path, path[1:]) if here != before]


def plain_ends(n, drops):
    return [[(i + step) % n for step in range(1, n + 1) if (i + step) % n in drops][0] for i in range(n)]


def plain_loads(n, drops, weights):
    """The loads at the end of a round with these drops."""
    loads = [0] * n
    for weight, end in zip(weights, plain_ends(n, drops)):
        loads[end] += weight
    return loads


def plain_longest(n, drops):
    """The number of drops in a longest sequence."""
    lengths = [0]
    for first in drops:
        length = 1
        while (first + length) % n in drops:
            length += 1
        lengths.append(length)
    return max(lengths)


def plain_passed(n, assignment):
    """All true certificates of the form passed, in ascending order."""
    return [("passed", i, k) for i in range(n) for k in range(n)
            if walked(n, i, assignment[k]) < walked(n, i, assignment[i])]


def plain_reason(n, assignment):
    for certificate in plain_passed(n, assignment):
        return certificate
    if sorted(assignment) == list(range(n)):
        return ("all",)
    return None


def plain_after(n, rounds):
    """The groups as clients, moved by one round after the other."""
    places = list(range(n))
    for batches in rounds:
        ends = plain_places(n, batches, len(batches))
        places = [ends[j] for j in places]
    return places


def plain_ways(servers):
    """All ways to restart these servers, in batches of any size."""
    if not servers:
        return [[]]
    found = []
    for many in range(1, len(servers) + 1):
        for batch in itertools.combinations(servers, many):
            rest = [j for j in servers if j not in batch]
            found.extend([list(batch)] + way for way in plain_ways(rest))
    return found


def some_rounds(n, many, seed):
    """Rounds of a large ring, with few and with many batches; the same ones for the same seed."""
    source = random.Random(seed)
    found = []
    while len(found) < many:
        batches = source.choice([2, 3, 5, n // 2 + 1, n, 4 * n])
        numbers = [source.randrange(batches) for _ in range(n)]
        if len(set(numbers)) >= 2:
            found.append([[j for j in range(n) if numbers[j] == k] for k in sorted(set(numbers))])
    return found


def one_by_one(n):
    """Rounds with one server in each batch: in the direction of the ring, against it, and mixed."""
    ahead = [[j] for j in range(n)]
    turned = ahead[n // 2:] + ahead[:n // 2]
    mixed = [[j] for j in random.Random(n).sample(range(n), n)]
    halves = ahead[::2] + ahead[1::2]
    return [ahead, ahead[::-1], turned, turned[::-1], mixed, mixed[::-1], halves]


def some_drops(n, seed):
    """Drops of a large ring, from one to all but one; the same ones for the same seed."""
    source = random.Random(seed)
    found = [[0], [n - 1], list(range(1, n)), list(range(n - 1)), list(range(0, n - 1, 2)), list(range(1, n, 2))]
    for many in (1, 2, n // 4, n // 2, n - n // 4, n - 1):
        found.append(sorted(source.sample(range(n), min(max(many, 1), n - 1))))
    return found


def with_one_changed(things, replacements):
    """Copies of a list in which one entry is something else."""
    found = []
    for at in range(len(things)):
        for other in replacements:
            changed = copy.deepcopy(things)
            changed[at] = copy.deepcopy(other)
            found.append(changed)
    return found
