import itertools
import random
import unittest

from ringrestart.errors import NoRing, NoRound, NoServer
from ringrestart.rings import distance, is_assignment, is_drops, is_round, round_of, times
from support import (
    BIG, NO_LISTS, NO_RINGS, NO_SERVERS_INSIDE, RingCase, all_assignments, all_drops, all_rounds, one_by_one,
    plain_times, some_rounds, walked, with_one_changed)

E = [[1], [0, 3], [4], [2]]

NO_ROUNDS_OF_3 = [
    [], [[]], [[], []], [[0, 1, 2]], [[0, 1, 2], []], [[], [0, 1, 2]], [[0], [], [1, 2]], [[0, 1], [2], []],
    [[0], [1]], [[0, 1], [1, 2]], [[0], [1], [2], [0]], [[0], [0]], [[0, 0], [1, 2]], [[0, 1], [2, 2]],
    [[1, 0], [2]], [[0], [2, 1]], [[2, 1, 0]], [[0, 2], [1, 2]], [[0], [1], [2], [3]], [[0], [1, 2, 3]],
    [[1], [2], [3]], [[1, 2], [3]], [[-1, 0], [1]], [[-1], [0], [1]], [[-1, 0, 1], [2]], [[0, 1], [2], [-1]],
    [0, 1, 2], [0, [1, 2]], [[0, 1], 2], [(0, 1), [2]], [[0, 1], (2,)], [[[0], 1], [2]], [[[0]], [[1]], [[2]]],
    [[0, True], [2]], [[False], [1, 2]], [[0], [True], [2]], [[False, True], [2]], [[0, 1], [BIG]],
    [["0"], ["1"], ["2"]], ["0", "1", "2"], ["01", "2"], [[0, 1], ["2"]], [[0, 1], [None]], [None, [0, 1, 2]],
    [[0, 1], [2], None], [{"0": 0}, [1, 2]], [[0, 1, 2], {}], [{}, {}], [[0, 1, 2], ""], [True, False],
    [[0, 3], [1], [4], [2]], [[0], [1], [2], [[]]], [[[[[[0]]]]], [1, 2]], [[0] * 60, [1], [2]],
    [[0]] * 1000, [0] * 2900,
]

# Objects with about as many batches as a ring of 60 servers can have, or with many more; none is a round.
MANY_BATCHES_OF_60 = [
    [[0]] * 1400, [[0, 1]] * 900, [[]] * 2900, [[59]] * 60, [[0, 1]] * 30, [[j] for j in range(61)],
    [[j] for j in range(59)], [[j] for j in range(1, 61)], [[j] for j in range(-1, 59)], [[j] for j in range(60)] * 2,
    [[j] for j in range(60)] + [[]], [[]] + [[j] for j in range(60)], [[j] for j in range(59)] + [[]],
    [[j] for j in range(59)] + [[58]], [[0], [0]] + [[j] for j in range(2, 60)], [[j] for j in range(59)] + [59],
    [[j] for j in range(59)] + [(59,)], [[j] for j in range(59)] + [[59, 59]], [[j] for j in range(59)] + [[59, 60]],
    [[j, j + 1] for j in range(59)], [[j + 1, j] for j in range(0, 60, 2)], [[False]] + [[j] for j in range(1, 60)],
    [[j] for j in range(60) if j != 1] + [[True]], [[j] for j in range(59)] + [["59"]],
    [[j] for j in range(59)] + [[None]], [[j] for j in range(59)] + [[[59]]], [list(range(60))] * 48, list(range(60)),
]

NO_DROPS_OF_3 = [
    [], [0, 1, 2], [1, 0], [2, 0], [2, 1], [0, 0], [1, 1], [2, 2], [0, 1, 1], [0, 2, 1], [-1], [3], [-1, 0], [2, 3],
    [0, 1, 2, 3], [0, 1, 2, 2], [True], [False], [0, True], [False, 1], [None], ["0"], ["0", "1"], [[0]],
    [[0], [1]], [(0,)], [{}], [BIG], [-BIG], [0, BIG], [0, None], [0, "1"], [0, [1]], [0] * 2900, [[[[[[0]]]]]],
]

NO_ASSIGNMENTS_OF_3 = [
    [], [0], [0, 0], [0, 1], [0, 0, 0, 0], [0, 1, 2, 0], [0, 1, 3], [3, 0, 0], [0, -1, 0], [-1, 0, 0], [-3, -3, -3],
    [True, 0, 0], [0, False, 0], [1, 1, True], [True, True, True], [None, 0, 0], [0, 0, None], [None] * 3,
    ["0", "0", "0"], [0, 0, "0"], [[0], 0, 0], [[0], [0], [0]], [[0, 0, 0]], [(0,), 0, 0], [{}, 0, 0], [0, 0, BIG],
    [-BIG, 0, 0], [0] * 2900,
]

NO_NUMBERS_OF_3 = [
    [], [1], [1, 2], [1, 2, 3, 4], [0, 0, 0], [7, 7, 7], [-1, -1, -1], [BIG] * 3, [-BIG] * 3, [True, 2, 3],
    [2, False, 3], [0, 1, True], [True, False, True], [None, 1, 2], [1, 2, None], ["1", 2, 3], ["1", "2", "3"],
    [[1], 2, 3], [[1], [2], [3]], [[1, 2, 3]], [1, 2, (3,)], [1, 2, {}], [1, 2, [[[[3]]]]], [1, 2, ""], [0] * 2900,
]


def ascending_sample(source, low, high, many):
    values = []
    while len(values) < many:
        values = sorted(set(values + [source.randint(low, high)]))
    return values


class TestWhether(RingCase):

    def test_examples(self):
        self.gives(True, is_round, 3, [[0, 2], [1]])
        self.gives(False, is_round, 3, [[0, 1, 2]])
        self.gives(True, is_drops, 3, [0, 2])

    def test_rounds(self):
        self.gives(True, is_round, 5, E)
        for n in (2, 3, 4):
            for batches in all_rounds(n):
                self.gives(True, is_round, n, batches)
        for n in range(2, 7):
            for batches in all_rounds(4):
                self.assertIs(n == 4, is_round(n, batches))

    def test_no_rounds(self):
        for thing in NO_ROUNDS_OF_3 + NO_LISTS:
            self.gives(False, is_round, 3, thing)
        for thing in NO_LISTS:
            self.gives(False, is_round, 2, thing)

    def test_many_batches(self):
        for thing in MANY_BATCHES_OF_60:
            self.gives(False, is_round, 60, thing)
            self.fails(NoRound, times, 60, thing)
        for n in (2, 3, 31, 59, 60):
            for batches in one_by_one(n):
                self.gives(True, is_round, n, batches)
                self.gives(plain_times(n, batches), times, n, batches)
                self.gives(False, is_round, n, batches + [[]])
                self.gives(False, is_round, n, batches[1:] + [[]])
                self.gives(False, is_round, n, batches[1:])
                self.gives(False, is_round, n, batches[1:] + batches[1:2])
                self.gives(False, is_round, n, batches + batches[:1])

    def test_rounds_with_one_wrong_server(self):
        for batches in ([[0], [1, 2]], [[1], [0, 2]], [[2], [0], [1]]):
            for at in range(len(batches)):
                for changed in with_one_changed(batches[at], NO_SERVERS_INSIDE + [3]):
                    self.gives(False, is_round, 3, batches[:at] + [changed] + batches[at + 1:])

    def test_all_batches_of_small_rings(self):
        n = 2
        batches = [list(some) for many in range(4) for some in itertools.product(range(-1, 3), repeat=many)]
        for thing in [list(some) for many in range(4) for some in itertools.product(batches, repeat=many)]:
            self.assertIs(thing in ([[0], [1]], [[1], [0]]), is_round(n, thing))

    def test_drops(self):
        for n in range(2, 6):
            good = all_drops(n)
            for thing in good:
                self.gives(True, is_drops, n, thing)
            for many in range(n + 2):
                for some in itertools.product(range(-1, n + 1), repeat=many):
                    self.assertIs(list(some) in good, is_drops(n, list(some)))

    def test_no_drops(self):
        for thing in NO_DROPS_OF_3 + NO_LISTS:
            self.gives(False, is_drops, 3, thing)
        for changed in with_one_changed([1, 2], NO_SERVERS_INSIDE + [3]):
            self.gives(False, is_drops, 3, changed)

    def test_assignments(self):
        for n in (2, 3, 4):
            for thing in all_assignments(n):
                self.assertIs(True, is_assignment(n, thing))
                self.assertIs(False, is_assignment(n + 1, thing))
                self.assertIs(False, is_assignment(n - 1 if n > 2 else 5, thing))
        self.gives(True, is_assignment, 5, [1, 3, 3, 0, 0])
        self.gives(True, is_assignment, 3, [0, 1, 2])
        self.gives(True, is_assignment, 3, [2, 2, 2])

    def test_no_assignments(self):
        for thing in NO_ASSIGNMENTS_OF_3 + NO_LISTS:
            self.gives(False, is_assignment, 3, thing)
        for changed in with_one_changed([0, 2, 1], NO_SERVERS_INSIDE + [3]):
            self.gives(False, is_assignment, 3, changed)

    def test_greatest_and_least_ring(self):
        for n in (2, 59, 60):
            self.gives(True, is_round, n, [[j] for j in range(n)])
            self.gives(True, is_round, n, [[n - 1], list(range(n - 1))])
            self.gives(False, is_round, n, [list(range(n))])
            self.gives(False, is_round, n, [[0], list(range(1, n + 1))])
            self.gives(True, is_drops, n, [n - 1])
            self.gives(True, is_drops, n, list(range(1, n)))
            self.gives(False, is_drops, n, list(range(n)))
            self.gives(False, is_drops, n, [n])
            self.gives(True, is_assignment, n, [n - 1] * n)
            self.gives(True, is_assignment, n, list(range(n)))
            self.gives(False, is_assignment, n, [n] * n)

    def test_no_ring(self):
        for function in (is_round, is_drops, is_assignment):
            for n in NO_RINGS:
                for thing in (None, [], [0], [[0], [1]], [0] * 61, [[j] for j in range(61)]):
                    self.fails(NoRing, function, n, thing)

    def test_same_list_is_judged_anew(self):
        batches, servers, places = [[0, 1], [2]], [0, 1], [0, 1, 2]
        self.assertIs(True, is_round(3, batches))
        self.assertIs(True, is_drops(3, servers))
        self.assertIs(True, is_assignment(3, places))
        batches[0].append(2)
        servers.append(2)
        places.append(2)
        self.assertIs(False, is_round(3, batches))
        self.assertIs(False, is_drops(3, servers))
        self.assertIs(False, is_assignment(3, places))
        batches[1].clear()
        batches.append([3])
        self.assertIs(False, is_round(4, batches))
        batches.pop(1)
        self.assertIs(True, is_round(4, batches))
        self.assertIs(True, is_drops(4, servers))
        self.assertIs(True, is_assignment(4, places))


class TestDistance(RingCase):

    def test_examples(self):
        self.gives(2, distance, 5, 4, 1)
        self.gives(5, distance, 5, 2, 2)

    def test_all(self):
        for n in (2, 3, 4, 5, 59, 60):
            for i in range(n):
                for j in range(n):
                    self.same(walked(n, i, j), distance(n, i, j))

    def test_edges(self):
        for n in (2, 60):
            self.gives(n, distance, n, 0, 0)
            self.gives(n, distance, n, n - 1, n - 1)
            self.gives(1, distance, n, n - 1, 0)
            self.gives(n - 1, distance, n, 0, n - 1)

    def test_wrong(self):
        for n in (2, 5, 60):
            for wrong in (-1, -n, n, n + 1, BIG, -BIG):
                self.fails(NoServer, distance, n, wrong, 0)
                self.fails(NoServer, distance, n, 0, wrong)
                self.fails(NoServer, distance, n, wrong, wrong)
        for n in NO_RINGS:
            self.fails(NoRing, distance, n, 0, 0)
            self.fails(NoRing, distance, n, 0, -1)
            self.fails(NoRing, distance, n, 100, 100)


class TestTimes(RingCase):

    def test_examples(self):
        self.gives([1, 0, 3, 1, 2], times, 5, E)
        self.fails(NoRing, times, 1, [[0], [1]])

    def test_small_rings(self):
        for n in (2, 3, 4):
            for batches in all_rounds(n):
                self.gives(plain_times(n, batches), times, n, batches)

    def test_large_rings(self):
        for n in (17, 60):
            for batches in some_rounds(n, 10, n):
                self.gives(plain_times(n, batches), times, n, batches)

    def test_wrong(self):
        for thing in NO_ROUNDS_OF_3 + NO_LISTS:
            self.fails(NoRound, times, 3, thing)
        for n in (2, 3, 4, 6, 60):
            self.fails(NoRound, times, n, E)
        for n in NO_RINGS:
            self.fails(NoRing, times, n, E)
            self.fails(NoRing, times, n, None)

    def test_same_round_is_judged_anew(self):
        batches = [[0], [1, 2]]
        self.same([0, 1, 1], times(3, batches))
        batches.reverse()
        self.same([1, 0, 0], times(3, batches))
        batches[0].pop()
        self.fails(NoRound, times, 3, batches)
        batches.append([2])
        self.same([1, 0, 2], times(3, batches))


class TestRoundOf(RingCase):

    def test_example(self):
        self.gives(E, round_of, 5, [1, 0, 3, 1, 2])

    def test_times_lead_back(self):
        for n in (2, 3, 4):
            for batches in all_rounds(n):
                self.gives(batches, round_of, n, plain_times(n, batches))
        for n in (17, 60):
            for batches in some_rounds(n, 10, n):
                self.gives(batches, round_of, n, plain_times(n, batches))

    def test_only_the_order_of_the_numbers_counts(self):
        source = random.Random(6)
        for n in (2, 3, 4):
            for batches in all_rounds(n):
                for low, high in ((-9, 9), (-BIG, BIG), (10 ** 30, 10 ** 30 + 8), (-12, -2)):
                    values = ascending_sample(source, low, high, len(batches))
                    numbers = [values[k] for k in plain_times(n, batches)]
                    self.gives(batches, round_of, n, numbers)

    def test_great_numbers(self):
        self.gives([[1], [0], [2]], round_of, 3, [BIG - 1, BIG - 2, BIG])
        self.gives([[2], [0], [1]], round_of, 3, [1 - BIG, 2 - BIG, -BIG])
        self.gives([[2], [0, 1]], round_of, 3, [BIG, BIG, -BIG])
        self.gives([[1], [2], [0]], round_of, 3, [2 ** 64, 2 ** 64 - 2, 2 ** 64 - 1])

    def test_few_and_many_batches(self):
        self.gives([[1], [0]], round_of, 2, [1, 0])
        self.gives([[0], [1]], round_of, 2, [-2, -1])
        self.gives([[j] for j in reversed(range(60))], round_of, 60, [-j for j in range(60)])
        self.gives([[59], list(range(59))], round_of, 60, [0] * 59 + [-1])

    def test_wrong(self):
        for thing in NO_NUMBERS_OF_3 + NO_LISTS:
            self.fails(NoRound, round_of, 3, thing)
        for changed in with_one_changed([3, 5, 4], [True, False, None, "", "4", (), (4,), [], [4], {}, {"4": 4}]):
            self.fails(NoRound, round_of, 3, changed)
        for n in (2, 4, 5, 60):
            self.fails(NoRound, round_of, n, [0, 1, 2])
            self.fails(NoRound, round_of, n, [5] * n)
        for n in NO_RINGS:
            self.fails(NoRing, round_of, n, [0, 1])
            self.fails(NoRing, round_of, n, [0, 0])
            self.fails(NoRing, round_of, n, list(range(61)))

    def test_same_numbers_are_judged_anew(self):
        numbers = [0, 0, 1]
        self.same([[0, 1], [2]], round_of(3, numbers))
        numbers[0] = 2
        self.same([[1], [2], [0]], round_of(3, numbers))
        numbers[1] = numbers[2] = 2
        self.fails(NoRound, round_of, 3, numbers)


if __name__ == "__main__":
    unittest.main()
