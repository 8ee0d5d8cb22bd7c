import copy
import fractions
import itertools
import random
import unittest

from ringrestart import errors
from ringrestart.errors import NoBatch, NoNumber, NoRing, NoServer, Nothing, NoWeights
from ringrestart.live import Ring
from ringrestart.loads import loads_after
from ringrestart.orders import chance
from ringrestart.rounds import after
from ringrestart.running import places_after, run
from support import (
    BIG, NO_LISTS, NO_RINGS, NO_SERVERS_INSIDE, RingCase, all_rounds, lists_in, plain_ways, some_rounds, spoil)
from test_loads import NO_WEIGHTS_OF_3

W = [5, 1, 1, 2, 4]

NAMES = {
    "restart": ("servers",), "places": (), "loads": (), "peak": (), "round_number": (), "left": (), "can_end": ("i",),
    "chance_of": ("i", "j"), "undo": (), "mark": (), "undo_to": ("mark",), "history": (), "twin": (),
}


class PlainRing:
    """The simulator as the document describes it; everything is found by doing all batches again."""

    def __init__(self, n, weights):
        self.n = n
        self.weights = weights
        self.batches = []
        self.marks = []

    def again(self):
        """The clients of each server, who was restarted in this round, the complete rounds, and the peak."""
        clients = [[i] for i in range(self.n)]
        done = []
        complete = 0
        peak = max(self.weights)
        for batch in self.batches:
            for j in batch:
                place = j
                while place in batch:
                    place = (place + 1) % self.n
                clients[place] = clients[place] + clients[j]
                clients[j] = []
            peak = max([peak] + [sum(self.weights[i] for i in some) for some in clients])
            done = done + batch
            if len(done) == self.n:
                done = []
                complete += 1
        return clients, done, complete, peak

    def places(self):
        clients = self.again()[0]
        return [[j for j in range(self.n) if i in clients[j]][0] for i in range(self.n)]

    def loads(self):
        return [sum(self.weights[i] for i in some) for some in self.again()[0]]

    def peak(self):
        return self.again()[3]

    def round_number(self):
        return self.again()[2]

    def left(self):
        done = self.again()[1]
        return [j for j in range(self.n) if j not in done]

    def may_restart(self, servers):
        return (isinstance(servers, list) and 0 < len(servers) < self.n and servers == sorted(set(servers))
                and set(servers) <= set(self.left()))

    def undo(self):
        self.batches.pop()
        self.marks = [held for held in self.marks if held <= len(self.batches)]

    def undo_to(self, mark):
        del self.batches[self.marks[mark]:]
        del self.marks[mark + 1:]


def ends_of_way(n, places, way):
    """Where the groups are after these batches."""
    for batch in way:
        moved = []
        for place in places:
            while place in batch:
                place = (place + 1) % n
            moved.append(place)
        places = moved
    return places


def plain_chances(n, places, left):
    """For each group and server the fraction of the orders in which it is there at the end."""
    orders = list(itertools.permutations(left))
    counts = [[0] * n for _ in range(n)]
    for order in orders:
        for i, place in enumerate(ends_of_way(n, places, [[j] for j in order])):
            counts[i][place] += 1
    found = [[fractions.Fraction(count, len(orders)) for count in row] for row in counts]
    return [[(part.numerator, part.denominator) for part in row] for row in found]


def marks_of(ring):
    """The histories at all marks, found with twins."""
    found = []
    for mark in range(ring.twin().mark()):
        twin = ring.twin()
        twin.undo_to(mark)
        found.append(twin.history())
    return found


def state_of(ring):
    """Everything that can be asked."""
    twin = ring.twin()
    past = []
    while len(twin):
        twin.undo()
        past.append((twin.history(), twin.places(), twin.peak(), twin.mark()))
    n = len(ring.places())
    chances = [ring.chance_of(i, (i + step) % n) for i in range(n) for step in (0, 1, 2)]
    return repr([ring.places(), ring.loads(), ring.peak(), ring.round_number(), ring.left(), ring.history(), len(ring),
                 [ring.can_end(i) for i in range(n)], chances, marks_of(ring), past])


class LiveCase(RingCase):

    def asks(self, expected, ring, name, *arguments):
        """By position and by name; the results are new, and what happens to them does not touch the ring."""
        method = getattr(ring, name)
        before = repr(arguments)
        results = [method(*arguments), method(**dict(zip(NAMES[name], arguments))), method(*arguments)]
        for result in results:
            self.same(expected, result)
        lists = lists_in(results)
        self.assertEqual(len(lists), len({id(each) for each in lists}))
        spoil(results)
        self.assertEqual(before, repr(arguments))
        self.same(expected, method(*arguments))

    def refuses(self, error, ring, name, *arguments):
        """By position and by name, with the very class; nothing changes."""
        before = repr(arguments)
        state = state_of(ring)
        with self.assertRaises(ValueError) as by_position:
            getattr(ring, name)(*arguments)
        with self.assertRaises(ValueError) as by_name:
            getattr(ring, name)(**dict(zip(NAMES[name], arguments)))
        for caught in (by_position.exception, by_name.exception):
            self.assertIs(error, type(caught))
            self.assertIsInstance(caught, errors.RingError)
        self.assertEqual(before, repr(arguments))
        self.same(state, state_of(ring))

    def agree(self, plain, ring):
        """The ring answers like the plain one."""
        self.same(plain.places(), ring.places())
        self.same(plain.loads(), ring.loads())
        self.same(plain.peak(), ring.peak())
        self.same(plain.round_number(), ring.round_number())
        self.same(plain.left(), ring.left())
        self.same(plain.batches, ring.history())
        self.same(len(plain.batches), len(ring))
        self.same([plain.batches[:held] for held in plain.marks], marks_of(ring))


def ring_after(n, weights, batches):
    ring = Ring(n, weights)
    for batch in batches:
        ring.restart(batch)
    return ring


class TestExamples(LiveCase):

    def test_restart(self):
        ring = ring_after(5, W, [[1]])
        self.asks([0, 2, 2, 3, 4], ring, "places")
        self.asks([5, 0, 2, 2, 4], ring, "loads")
        self.asks([0, 2, 3, 4], ring, "left")
        self.asks(5, ring, "peak")

    def test_can_end(self):
        ring = ring_after(5, W, [[1]])
        self.asks([1], ring, "can_end", 0)
        self.asks([0, 1, 3, 4], ring, "can_end", 1)

    def test_chance_of(self):
        ring = ring_after(5, W, [[1]])
        for j, expected in ((3, (1, 2)), (4, (1, 3)), (0, (1, 8)), (1, (1, 24)), (2, (0, 1))):
            self.asks(expected, ring, "chance_of", 1, j)

    def test_end_of_a_round(self):
        ring = ring_after(5, W, [[1], [0, 3], [2, 4]])
        self.asks([1, 3, 3, 0, 0], ring, "places")
        self.asks(1, ring, "round_number")
        self.asks([0, 1, 2, 3, 4], ring, "left")
        self.same(3, len(ring))
        self.asks(6, ring, "peak")

    def test_marks_and_twins(self):
        ring = ring_after(5, W, [[1]])
        mark = ring.mark()
        self.assertIsNone(ring.restart([0, 2, 3, 4]))
        twin = ring.twin()
        self.assertIsNone(ring.undo_to(mark))
        self.same(0, mark)
        self.asks([0, 2, 3, 4], ring, "left")
        self.asks([[1]], ring, "history")
        self.asks(1, twin, "round_number")

    def test_errors(self):
        self.refuses(NoBatch, Ring(5, W), "restart", [0, 1, 2, 3, 4])
        self.refuses(NoBatch, ring_after(5, W, [[1]]), "restart", [1])
        with self.assertRaises(NoWeights):
            Ring(3, [1, 2])


class TestBeginning(LiveCase):

    def test_new_ring(self):
        for n in (2, 3, 59, 60):
            weights = [(7 * i) % 11 for i in range(n)]
            ring = Ring(n=n, weights=weights)
            self.asks(list(range(n)), ring, "places")
            self.asks(weights, ring, "loads")
            self.asks(max(weights), ring, "peak")
            self.asks(0, ring, "round_number")
            self.asks(list(range(n)), ring, "left")
            self.asks([], ring, "history")
            self.same(0, len(ring))
            self.assertIs(type(ring), Ring)

    def test_edges_of_weights(self):
        for n in (2, 60):
            ring = Ring(n, [0] * n)
            ring.restart(list(range(n - 1)))
            self.asks(0, ring, "peak")
            self.asks([0] * n, ring, "loads")
            ring = Ring(n, [10 ** 30] * n)
            self.asks(10 ** 30, ring, "peak")
            ring.restart(list(range(1, n)))
            self.asks([n * 10 ** 30] + [0] * (n - 1), ring, "loads")
            self.asks(n * 10 ** 30, ring, "peak")

    def test_wrong(self):
        for n in NO_RINGS:
            for weights in (None, [], [1] * 3, W, [1] * 61):
                with self.assertRaises(ValueError) as caught:
                    Ring(n, weights)
                self.assertIs(NoRing, type(caught.exception))
        for weights in NO_WEIGHTS_OF_3 + NO_LISTS:
            before = repr(weights)
            for arguments in ((3, weights), {"n": 3, "weights": weights}):
                with self.assertRaises(ValueError) as caught:
                    Ring(*arguments) if isinstance(arguments, tuple) else Ring(**arguments)
                self.assertIs(NoWeights, type(caught.exception))
            self.assertEqual(before, repr(weights))
        for n in (2, 60):
            for weights in ([10 ** 30 + 1] * n, [-1] * n, [1] * (n - 1), [1] * (n + 1), [True] * n):
                with self.assertRaises(NoWeights):
                    Ring(n, weights)

    def test_weights_are_copied(self):
        weights = [5, 1, 1]
        ring = Ring(3, weights)
        weights[0] = 100
        weights.append(3)
        self.asks([5, 1, 1], ring, "loads")
        ring.restart([0])
        self.asks([0, 6, 1], ring, "loads")
        twin = ring.twin()
        twin.undo()
        self.asks([5, 1, 1], twin, "loads")
        self.same([100, 1, 1, 3], weights)

    def test_identity(self):
        one = Ring(2, [1, 1])
        other = Ring(2, [1, 1])
        self.assertNotEqual(one, other)
        self.assertNotEqual(one, one.twin())
        self.assertEqual(one, one)
        self.assertEqual(2, len({one, other, one}))


class TestRestart(LiveCase):

    def test_all_ways_through_one_round(self):
        for n in (2, 3, 4):
            weights = [3 ** i for i in range(n)]
            for batches in all_rounds(n):
                ring = Ring(n, weights)
                plain = PlainRing(n, weights)
                for batch in batches:
                    self.assertIsNone(ring.restart(batch))
                    plain.batches.append(batch)
                    self.agree(plain, ring)
                self.same(run(n, batches), ring.places())

    def test_rounds_agree_with_run_and_after(self):
        for n in (5, 60):
            source = random.Random(n)
            # All together they are not too many for one server, so that loads can be weights again.
            weights = [source.randrange(10 ** 28) for _ in range(n)]
            rounds = some_rounds(n, 4, n + 7)
            ring = Ring(n, weights)
            history = []
            peak = max(weights)
            for many, batches in enumerate(rounds):
                start = ring.places()
                borne = ring.loads()
                for k, batch in enumerate(batches):
                    ring.restart(batch)
                    history.append(batch)
                    here = places_after(n, batches, k + 1)
                    self.same([here[j] for j in start], ring.places())
                    last = k + 1 == len(batches)
                    self.same(many + 1 if last else many, ring.round_number())
                    # What the servers have at the beginning of a round are the weights for it.
                    self.same(loads_after(n, batches, borne, k + 1), ring.loads())
                    peak = max(peak, max(ring.loads()))
                    self.same(peak, ring.peak())
                    self.same(sum(weights), sum(ring.loads()))
                self.same(after(n, rounds[:many + 1]), ring.places())
                self.same(list(range(n)), ring.left())
            self.same(history, ring.history())
            self.same(len(history), len(ring))

    def test_no_load_is_greater_than_at_the_end_of_a_round(self):
        for n in (4, 60):
            for batches in some_rounds(n, 6, n):
                weights = [(i * i) % 17 for i in range(n)]
                ring = ring_after(n, weights, batches)
                self.same(max(ring.loads()), ring.peak())

    def test_all_that_are_left(self):
        for n in (2, 3, 60):
            for first in (0, 1, n - 1):
                ring = ring_after(n, [1] * n, [[first]])
                self.asks([j for j in range(n) if j != first], ring, "left")
                ring.restart([j for j in range(n) if j != first])
                self.asks([first] * n, ring, "places")
                self.asks(n, ring, "peak")
                self.asks(1, ring, "round_number")
                self.asks(list(range(n)), ring, "left")
                # A new round: again not all of them, but all but one.
                self.refuses(NoBatch, ring, "restart", list(range(n)))
                ring.restart([j for j in range(n) if j != first])
                self.asks([first], ring, "left")
                ring.restart([first])
                self.asks([(first + 1) % n] * n, ring, "places")
                self.asks(2, ring, "round_number")
                self.same(4, len(ring))

    def test_batches_that_go_over_the_last_server(self):
        ring = Ring(5, W)
        ring.restart([0, 3, 4])
        self.asks([1, 1, 2, 1, 1], ring, "places")
        self.asks([0, 12, 1, 0, 0], ring, "loads")
        ring = ring_after(4, [1, 2, 4, 8], [[3], [0, 2]])
        self.asks([1, 1, 3, 1], ring, "places")

    def test_no_batches(self):
        ring = ring_after(5, W, [[1, 3]])
        things = NO_LISTS + [[each] for each in NO_SERVERS_INSIDE] + [
            [], [1], [3], [1, 3], [0, 1], [0, 3], [1, 2], [2, 3], [3, 4], [0, 1, 2, 3, 4], [0, 2, 3, 4], [5],
            [0, 5], [-1], [-1, 0], [4, 5], [2, 0], [4, 2, 0], [0, 0], [0, 2, 2], [2, 2], [0, 4, 2], [0, None],
            [0, "2"], ["0", 2], [False], [False, 2], [0, 2, 4, True], [[0]], [[0], [2]], [0, [2]], [(0,)], [(0, 2)],
            [0, 2, {}], [None] * 2900, [0] * 2900, list(range(2900)), [BIG], [0, BIG], [-BIG, 0],
        ]
        for thing in things:
            if repr(thing) != "[0]":
                self.refuses(NoBatch, ring, "restart", thing)
        self.assertIsNone(ring.restart([0, 2, 4]))
        self.asks(1, ring, "round_number")

    def test_all_lists_of_a_small_ring(self):
        for n in (2, 3):
            lists = [list(some) for many in range(n + 2) for some in itertools.product(range(-1, n + 1), repeat=many)]
            for before in ([], [[0]], [[n - 1]], [[0], [n - 1]], [[j] for j in range(n)]):
                plain = PlainRing(n, [1] * n)
                plain.batches = before
                if len(before) == 2 and n == 2:
                    self.same([0, 1], plain.left())
                for servers in lists:
                    ring = ring_after(n, [1] * n, before)
                    if plain.may_restart(servers):
                        ring.restart(servers=servers)
                        self.same(before + [servers], ring.history())
                    else:
                        self.refuses(NoBatch, ring, "restart", servers)

    def test_servers_are_copied(self):
        servers = [0, 2]
        ring = Ring(5, W)
        ring.restart(servers)
        self.same([0, 2], servers)
        servers.append(3)
        servers[0] = 1
        self.asks([[0, 2]], ring, "history")
        self.asks([1, 3, 4], ring, "left")
        self.refuses(NoBatch, ring, "restart", [1, 2, 3])
        servers.remove(2)
        ring.restart(servers)
        self.asks([[0, 2], [1, 3]], ring, "history")


class TestEndsOfRound(LiveCase):

    def check(self, n, before):
        """All ways and all orders to restart the servers that are left."""
        ring = ring_after(n, [1] * n, before)
        places = ring.places()
        left = ring.left()
        ways = [way for way in plain_ways(left) if way != [list(range(n))]]
        results = [ends_of_way(n, places, way) for way in ways]
        singles = [ends_of_way(n, places, [[j] for j in order]) for order in itertools.permutations(left)]
        chances = plain_chances(n, places, left)
        for i in range(n):
            expected = sorted({result[i] for result in results})
            self.same(expected, sorted({result[i] for result in singles}))
            self.asks(expected, ring, "can_end", i)
            for j in range(n):
                self.asks(chances[i][j], ring, "chance_of", i, j)

    def test_small_rings(self):
        for n in (2, 3, 4):
            self.check(n, [])
            for batches in all_rounds(n):
                for k in range(1, len(batches)):
                    self.check(n, batches[:k])

    def test_ring_of_five(self):
        for before in ([], [[0]], [[4]], [[1, 3]], [[2], [0]], [[0, 1, 2]], [[3], [4], [0, 1]], [[0, 2, 4], [1]]):
            self.check(5, before)

    def test_later_rounds(self):
        for n in (2, 3, 4):
            source = random.Random(n)
            for _ in range(12):
                first, second, third = [source.choice(all_rounds(n)) for _ in range(3)]
                self.check(n, first)
                self.check(n, first + second)
                self.check(n, first + second + third[:source.randrange(len(third))])

    def test_beginning(self):
        for n in (2, 5, 60):
            ring = Ring(n, [1] * n)
            for i in (0, 1, n - 1):
                self.asks(list(range(n)), ring, "can_end", i)
                for j in range(n):
                    self.asks(chance(n, i, j), ring, "chance_of", i, j)

    def test_chances_add_up(self):
        for n in (6, 60):
            for batches in some_rounds(n, 3, n + 1) + [[[j] for j in range(n)], [[j] for j in reversed(range(n))]]:
                ring = Ring(n, [1] * n)
                for batch in batches + batches[:2]:
                    for i in range(0, n, 5):
                        chances = [ring.chance_of(i, j) for j in range(n)]
                        self.assertEqual(1, sum(fractions.Fraction(*each) for each in chances))
                        self.same([j for j in range(n) if chances[j] != (0, 1)], ring.can_end(i))
                    ring.restart(batch)

    def test_restarted_servers(self):
        ring = ring_after(4, [1] * 4, [[0], [1]])
        self.asks([2, 2, 2, 3], ring, "places")
        self.asks([0, 3], ring, "can_end", 0)
        self.asks([0], ring, "can_end", 3)
        ring.restart([3])
        self.asks([0], ring, "can_end", 3)
        self.asks((1, 1), ring, "chance_of", 3, 0)
        self.asks((0, 1), ring, "chance_of", 3, 3)
        self.asks([3], ring, "can_end", 1)
        self.asks((1, 1), ring, "chance_of", 1, 3)
        ring.restart([2])
        # The next round has begun.
        self.asks([3, 3, 3, 0], ring, "places")
        self.asks([0, 1, 2, 3], ring, "can_end", 3)
        self.asks((1, 24), ring, "chance_of", 3, 0)
        self.asks((1, 2), ring, "chance_of", 3, 1)

    def test_wrong(self):
        for n, before in ((2, []), (5, [[1]]), (60, [[0], [59]])):
            ring = ring_after(n, [1] * n, before)
            for i in (-1, -2, -n, n, n + 1, 60, BIG, -BIG):
                self.refuses(NoServer, ring, "can_end", i)
                self.refuses(NoServer, ring, "chance_of", i, 0)
                self.refuses(NoServer, ring, "chance_of", 0, i)
                self.refuses(NoServer, ring, "chance_of", i, i)


class TestUndo(LiveCase):

    def test_nothing(self):
        ring = Ring(5, W)
        self.refuses(Nothing, ring, "undo")
        ring.mark()
        self.refuses(Nothing, ring, "undo")
        ring.restart([0])
        ring.undo()
        self.refuses(Nothing, ring, "undo")

    def test_over_the_end_of_a_round(self):
        ring = ring_after(3, [1, 2, 4], [[0], [1, 2]])
        self.asks([0, 0, 0], ring, "places")
        self.asks(7, ring, "peak")
        self.assertIsNone(ring.undo())
        self.asks([1, 1, 2], ring, "places")
        self.asks([0, 3, 4], ring, "loads")
        self.asks([1, 2], ring, "left")
        self.asks(0, ring, "round_number")
        self.asks(4, ring, "peak")
        self.refuses(NoBatch, ring, "restart", [0])
        self.assertIsNone(ring.restart([2]))
        self.asks([1, 1, 0], ring, "places")
        self.asks([[0], [2]], ring, "history")

    def test_marks_behind_the_undone_restart(self):
        ring = Ring(5, W)
        self.same(0, ring.mark())
        ring.restart([0])
        self.same(1, ring.mark())
        self.same(2, ring.mark())
        ring.restart([1])
        self.same(3, ring.mark())
        ring.undo()
        # The marks 1 and 2 were made before the undone restart.
        self.refuses(NoNumber, ring, "undo_to", 3)
        self.same(3, ring.mark())
        ring.undo()
        for mark in (1, 2, 3, 4, BIG):
            self.refuses(NoNumber, ring, "undo_to", mark)
        self.assertIsNone(ring.undo_to(0))
        self.same(1, ring.mark())

    def test_undo_to(self):
        ring = Ring(3, [1, 2, 4])
        for mark in (0, -1, 1, -2, BIG, -BIG):
            self.refuses(NoNumber, ring, "undo_to", mark)
        self.same(0, ring.mark())
        ring.restart([2])
        self.same(1, ring.mark())
        ring.restart([0])
        ring.restart([1])
        self.same(2, ring.mark())
        ring.restart([1])
        self.same(3, ring.mark())
        self.asks(1, ring, "round_number")
        for mark in (4, 5, -1, -2, -4, BIG, -BIG):
            self.refuses(NoNumber, ring, "undo_to", mark)
        # Over the end of the round; the mark stays, the later ones go.
        self.assertIsNone(ring.undo_to(mark=1))
        self.asks([0, 1], ring, "left")
        self.asks(0, ring, "round_number")
        self.asks([[2]], ring, "history")
        self.refuses(NoNumber, ring, "undo_to", 2)
        self.assertIsNone(ring.undo_to(1))
        self.asks([[2]], ring, "history")
        self.same(2, ring.mark())
        ring.restart([0, 1])
        self.assertIsNone(ring.undo_to(2))
        self.asks([[2]], ring, "history")
        self.assertIsNone(ring.undo_to(0))
        self.asks([0, 1, 2], ring, "places")
        self.asks([1, 2, 4], ring, "loads")
        self.same(0, len(ring))
        self.refuses(NoNumber, ring, "undo_to", 1)
        self.same(1, ring.mark())

    def test_undo_to_the_mark_of_now(self):
        ring = ring_after(3, [1, 2, 4], [[0]])
        self.same([0, 1, 2], [ring.mark(), ring.mark(), ring.mark()])
        self.assertIsNone(ring.undo_to(0))
        self.asks([[0]], ring, "history")
        self.refuses(NoNumber, ring, "undo_to", 1)
        self.same(1, ring.mark())

    def test_peak_of_what_holds(self):
        ring = Ring(4, [1, 1, 1, 1])
        ring.restart([0, 1, 2])
        self.asks(4, ring, "peak")
        ring.restart([3])
        self.asks(4, ring, "peak")
        ring.undo()
        ring.undo()
        self.asks(1, ring, "peak")
        ring.restart([0])
        self.asks(2, ring, "peak")


class TestTwins(LiveCase):

    def test_do_not_touch_each_other(self):
        ring = ring_after(5, W, [[1]])
        ring.mark()
        ring.restart([0, 3])
        ring.mark()
        twin = ring.twin()
        self.assertIs(Ring, type(twin))
        state = state_of(ring)
        self.same(state, state_of(twin))
        twin.restart([2, 4])
        twin.mark()
        twin.restart([0])
        self.same(state, state_of(ring))
        twin.undo_to(0)
        self.same(state, state_of(ring))
        self.asks([[1]], twin, "history")
        self.same(1, twin.mark())
        self.same(2, ring.mark())
        other = ring.twin()
        changed = state_of(twin)
        ring.undo()
        ring.undo()
        ring.restart([2])
        self.same(changed, state_of(twin))
        self.asks([[1], [0, 3]], other, "history")
        self.assertIsNone(other.undo_to(2))
        self.refuses(NoNumber, ring, "undo_to", 0)
        spoil([ring.history(), ring.places(), ring.loads(), ring.left()])
        self.same(changed, state_of(twin))

    def test_twins_of_twins(self):
        ring = Ring(3, [1, 2, 4])
        family = [ring]
        for batch in ([0], [1], [2], [1, 2], [0]):
            family.append(family[-1].twin())
            family[-1].mark()
            family[-1].restart(batch)
        for many, each in enumerate(family):
            self.same(many, len(each))
            self.same(many, each.mark())
        family[5].undo_to(0)
        self.same([0, 1, 2, 3, 4, 0], [len(each) for each in family])


class TestAgainstPlainRing(LiveCase):

    def walk(self, n, weights, steps, seed):
        """A random way; at times it goes on with a twin."""
        source = random.Random(seed)
        ring = Ring(n, weights)
        plain = PlainRing(n, weights)
        for _ in range(steps):
            choice = source.choice(["restart"] * 6 + ["undo", "mark", "undo_to", "twin"])
            if choice == "restart":
                left = plain.left()
                many = source.choice([1, 1, 2, len(left) // 2, len(left)])
                servers = sorted(source.sample(left, max(1, min(many, len(left), n - 1))))
                self.assertIsNone(ring.restart(servers))
                plain.batches.append(servers)
            elif choice == "undo" and plain.batches:
                self.assertIsNone(ring.undo())
                plain.undo()
            elif choice == "mark":
                self.same(len(plain.marks), ring.mark())
                plain.marks.append(len(plain.batches))
            elif choice == "undo_to" and plain.marks:
                mark = source.randrange(len(plain.marks))
                self.assertIsNone(ring.undo_to(mark))
                plain.undo_to(mark)
            elif choice == "twin":
                before = state_of(ring) if n < 6 else None
                other = ring.twin()
                kept = copy.deepcopy(plain)
                if source.randrange(2):
                    ring, other = other, ring
                if other.left() != list(range(n)):
                    other.restart(other.left())
                other.mark()
                if len(other):
                    other.undo()
                if before is not None:
                    self.same(before, state_of(ring))
                self.agree(kept, ring)
            self.agree(plain, ring)

    def test_random_ways(self):
        for n in (2, 3, 4, 5):
            for seed in range(12):
                self.walk(n, [(seed * i) % 7 for i in range(n)], 40, seed)

    def test_random_ways_of_a_large_ring(self):
        source = random.Random(60)
        self.walk(60, [source.randrange(10 ** 30 + 1) for _ in range(60)], 60, 1)
        self.walk(59, [0] * 58 + [10 ** 30], 40, 2)

    def test_three_hundred_calls(self):
        ring = Ring(60, [1] * 60)
        for k in range(250):
            ring.restart([(7 * k) % 60])
        self.same(250, len(ring))
        self.same(4, ring.round_number())
        one_round = [[(7 * k) % 60] for k in range(60)]
        self.same(places_after(60, one_round, 10), ring_after(60, [1] * 60, ring.history()[240:]).places())
        self.same(after(60, [one_round] * 4), ring_after(60, [1] * 60, ring.history()[:240]).places())
        self.same(0, ring.mark())
        for _ in range(48):
            ring.undo()
        self.refuses(NoNumber, ring, "undo_to", 0)
        self.same(202, len(ring))


if __name__ == "__main__":
    unittest.main()
