import random
import unittest

from ringrestart.batches import fewest_batches, round_in_batches
from ringrestart.errors import NoNumber, NoRing, NoRound, NoWeights
from ringrestart.loads import best_drops, fewest_for, least_greatest, loads_after
from support import (
    BIG, NO_LISTS, NO_RINGS, RingCase, all_drops, all_rounds, plain_drops, plain_loads, plain_longest, plain_places,
    some_rounds, with_one_changed)
from test_rings import MANY_BATCHES_OF_60, NO_ROUNDS_OF_3

E = [[1], [0, 3], [4], [2]]
W = [5, 1, 1, 2, 4]
MOST_WEIGHT = 10 ** 30

NO_WEIGHTS_OF_3 = [
    [], [1], [1, 1], [1, 1, 1, 1], [-1, 1, 1], [1, 1, -1], [1, -BIG, 1], [MOST_WEIGHT + 1, 1, 1],
    [1, 1, MOST_WEIGHT + 1], [1, BIG, 1], [True, 1, 1], [1, 1, False], [True, True, True], [None, 1, 1], [1, 1, None],
    ["1", "1", "1"], [1, 1, "1"], [1, 1, ""], [[1], 1, 1], [[1], [1], [1]], [[1, 1, 1]], [1, 1, (1,)], [1, 1, []],
    [1, 1, {}], [1, 1, {"1": 1}], [[[[[[1]]]]]], [1] * 2900,
]


def plain_loads_after(n, batches, weights, k):
    loads = [0] * n
    for weight, place in zip(weights, plain_places(n, batches, k)):
        loads[place] += weight
    return loads


def some_weights(n, source):
    """Weights of many kinds: small and great, nearly equal and very different."""
    greatest = source.choice([1, 2, 4, 10, 100, MOST_WEIGHT])
    if source.randrange(4) == 0:
        return [source.choice([0, 0, 0, greatest]) for _ in range(n)]
    return [source.randint(0, greatest) for _ in range(n)]


class TestExamples(RingCase):

    def test_loads_after(self):
        self.gives([6, 5, 2, 0, 0], loads_after, 5, E, W, 3)
        self.gives([6, 5, 0, 2, 0], loads_after, 5, E, W, 4)

    def test_least_greatest(self):
        self.gives(5, least_greatest, 5, W, 5)
        self.gives(7, least_greatest, 5, W, 2)
        self.gives([0, 2], best_drops, 5, W, 2)

    def test_fewest_for(self):
        self.gives(3, fewest_for, 5, W, 6)
        self.gives(None, fewest_for, 5, W, 4)


class TestLoadsAfter(RingCase):

    def test_small_rings(self):
        source = random.Random(1)
        for n in (2, 3, 4):
            for batches in all_rounds(n):
                weights = some_weights(n, source)
                for k in range(len(batches) + 1):
                    self.gives(plain_loads_after(n, batches, weights, k), loads_after, n, batches, weights, k)

    def test_large_rings(self):
        source = random.Random(2)
        for n in (17, 60):
            for batches in some_rounds(n, 6, n):
                weights = some_weights(n, source)
                for k in (0, 1, len(batches) // 2, len(batches)):
                    self.gives(plain_loads_after(n, batches, weights, k), loads_after, n, batches, weights, k)

    def test_first_and_last(self):
        for n in (2, 5, 60):
            weights = [j % 7 for j in range(n)]
            batches = [[j] for j in range(n)]
            self.gives(weights, loads_after, n, batches, weights, 0)
            self.gives([sum(weights)] + [0] * (n - 1), loads_after, n, batches, weights, n)
            self.gives([0] * (n - 1) + [sum(weights)], loads_after, n, batches, weights, n - 1)

    def test_great_weights(self):
        self.gives([0, 2 * MOST_WEIGHT], loads_after, 2, [[0], [1]], [MOST_WEIGHT] * 2, 1)
        self.gives([60 * MOST_WEIGHT] + [0] * 59, loads_after, 60, [[j] for j in range(60)], [MOST_WEIGHT] * 60, 60)
        self.gives([0] * 60, loads_after, 60, [[j] for j in range(60)], [0] * 60, 30)

    def test_never_more_than_at_the_end(self):
        source = random.Random(3)
        for n in (2, 3, 4, 5):
            for batches in all_rounds(n):
                weights = some_weights(n, source)
                greatest = [max(loads_after(n, batches, weights, k)) for k in range(len(batches) + 1)]
                self.assertEqual(max(greatest), greatest[-1])
        for batches in some_rounds(60, 8, 5):
            weights = some_weights(60, source)
            greatest = [max(loads_after(60, batches, weights, k)) for k in range(len(batches) + 1)]
            self.assertEqual(max(greatest), greatest[-1])


class TestSmallRings(RingCase):

    def test_against_all_rounds(self):
        source = random.Random(4)
        for n in (2, 3, 4, 5):
            rounds = all_rounds(n)
            for _ in range(6 if n < 5 else 3):
                weights = some_weights(n, source)
                greatest = [max(plain_loads_after(n, batches, weights, len(batches))) for batches in rounds]
                for most in range(2, n + 2):
                    few = [at for at in range(len(rounds)) if len(rounds[at]) <= most]
                    least = min(greatest[at] for at in few)
                    self.gives(least, least_greatest, n, weights, most)
                    best = min(plain_drops(n, rounds[at]) for at in few if greatest[at] == least)
                    self.gives(best, best_drops, n, weights, most)
                limits = {0, sum(weights)} | {each + by for each in greatest for by in (-1, 0) if each + by >= 0}
                for limit in sorted(limits):
                    good = [len(rounds[at]) for at in range(len(rounds)) if greatest[at] <= limit]
                    self.gives(min(good, default=None), fewest_for, n, weights, limit)

    def test_against_all_drops(self):
        source = random.Random(5)
        for n in (6, 7, 8, 9):
            every = [(drops, 1 + plain_longest(n, drops)) for drops in all_drops(n)]
            for _ in range(8):
                weights = some_weights(n, source)
                greatest = [max(plain_loads(n, drops, weights)) for drops, _ in every]
                for most in (2, 3, 4, n - 1, n, n + 1):
                    few = [at for at in range(len(every)) if every[at][1] <= most]
                    least = min(greatest[at] for at in few)
                    self.same(least, least_greatest(n, weights, most))
                    self.same(min(every[at][0] for at in few if greatest[at] == least), best_drops(n, weights, most))
                for limit in sorted(set(greatest))[:40]:
                    good = [many for each, (_, many) in zip(greatest, every) if each <= limit]
                    self.same(min(good), fewest_for(n, weights, limit))
                if min(greatest) > 0:
                    self.same(None, fewest_for(n, weights, min(greatest) - 1))


class TestLargeRings(RingCase):

    def test_best_drops_reach_it(self):
        source = random.Random(6)
        for n in (2, 3, 16, 31, 59, 60):
            for _ in range(4):
                weights = some_weights(n, source)
                for most in (2, 3, 5, n, n + 1, BIG):
                    least = least_greatest(n, weights, most)
                    self.gives(least, least_greatest, n, weights, most)
                    best = best_drops(n, weights, most)
                    self.gives(best, best_drops, n, weights, most)
                    self.assertLessEqual(fewest_batches(n, best), most)
                    self.assertEqual(least, max(plain_loads(n, best, weights)))
                    batches = round_in_batches(n, best)
                    self.assertEqual(least, max(loads_after(n, batches, weights, len(batches))))
                    fewest = fewest_for(n, weights, least)
                    self.assertLessEqual(fewest, most)
                    self.assertEqual(least, least_greatest(n, weights, fewest))

    def test_fewest_for_is_the_first_number_that_is_enough(self):
        source = random.Random(7)
        for n in (16, 31, 60):
            weights = some_weights(n, source)
            by_most = [least_greatest(n, weights, most) for most in range(2, n + 1)]
            self.assertEqual(by_most, sorted(by_most, reverse=True))
            for limit in sorted({each + by for each in by_most for by in (-1, 0, 1) if each + by >= 0}):
                good = [most for most, least in enumerate(by_most, start=2) if least <= limit]
                self.gives(min(good, default=None), fewest_for, n, weights, limit)

    def test_no_other_drops_are_better(self):
        source = random.Random(8)
        for n in (16, 31, 60):
            weights = some_weights(n, source)
            for most in (2, 3, n):
                least, best = least_greatest(n, weights, most), best_drops(n, weights, most)
                for _ in range(300):
                    other = sorted(set(best) ^ set(source.sample(range(n), source.randrange(1, 4))))
                    if other and len(other) < n and fewest_batches(n, other) <= most:
                        greatest = max(plain_loads(n, other, weights))
                        self.assertLessEqual(least, greatest)
                        if greatest == least:
                            self.assertLessEqual(best, other)


class TestEdges(RingCase):

    def test_two_servers(self):
        for most in (2, 3, BIG):
            self.gives(8, least_greatest, 2, [3, 5], most)
            self.gives([0], best_drops, 2, [3, 5], most)
        self.gives(2, fewest_for, 2, [3, 5], 8)
        self.gives(2, fewest_for, 2, [3, 5], BIG)
        self.gives(None, fewest_for, 2, [3, 5], 7)

    def test_no_clients(self):
        for n in (2, 3, 60):
            for most in (2, n, BIG):
                self.gives(0, least_greatest, n, [0] * n, most)
                self.gives([0], best_drops, n, [0] * n, most)
            self.gives(2, fewest_for, n, [0] * n, 0)

    def test_equal_weights(self):
        for w in (1, 7, MOST_WEIGHT):
            for n in (4, 6, 60):
                for most in (2, 3, n, n + 1, BIG):
                    self.gives(2 * w, least_greatest, n, [w] * n, most)
                self.gives(list(range(0, n, 2)), best_drops, n, [w] * n, 2)
                self.gives(list(range(n - 1)), best_drops, n, [w] * n, n)
                self.gives(None, fewest_for, n, [w] * n, 2 * w - 1)
                self.gives(2, fewest_for, n, [w] * n, 2 * w)
            for n in (3, 5, 59):
                self.gives(3 * w, least_greatest, n, [w] * n, 2)
                self.gives(2 * w, least_greatest, n, [w] * n, 3)
                self.gives(3, fewest_for, n, [w] * n, 2 * w)
                self.gives(2, fewest_for, n, [w] * n, 3 * w)

    def test_most_above_all_numbers(self):
        source = random.Random(9)
        for n in (2, 3, 9, 60):
            weights = some_weights(n, source)
            for most in (n + 1, n + 2, 61, 10 ** 30, BIG):
                self.gives(least_greatest(n, weights, n), least_greatest, n, weights, most)
                self.gives(best_drops(n, weights, n), best_drops, n, weights, most)

    def test_one_great_weight(self):
        for n in (3, 5, 60):
            for at in (0, 1, n - 1):
                weights = [0] * n
                weights[at] = MOST_WEIGHT
                for most in (2, n):
                    self.gives(MOST_WEIGHT, least_greatest, n, weights, most)
                    self.gives([0], best_drops, n, weights, most)
                self.gives(2, fewest_for, n, weights, MOST_WEIGHT)
                self.gives(None, fewest_for, n, weights, MOST_WEIGHT - 1)

    def test_limit_that_cannot_be_kept(self):
        self.gives(None, fewest_for, 3, [1, 1, 1], 0)
        self.gives(None, fewest_for, 3, [1, 1, 1], 1)
        self.gives(3, fewest_for, 3, [1, 1, 1], 2)
        self.gives(2, fewest_for, 3, [1, 1, 1], 3)
        self.gives(None, fewest_for, 4, [9, 0, 0, 0], 8)

    def test_drops_at_both_ends_of_the_list(self):
        # Under 18 only groups 1 and 2, 2 and 3, or 3 and 4 may end together, so that 5, 0 and 1 are drops in a row.
        weights = [9, 9, 1, 1, 9, 9]
        self.gives(4, fewest_for, 6, weights, 10)
        self.gives(6, fewest_for, 6, weights, 9)
        for most, least, best in ((6, 9, [0, 1, 2, 4, 5]), (5, 10, [0, 1, 3, 5]), (4, 10, [0, 1, 3, 5])):
            self.gives(least, least_greatest, 6, weights, most)
            self.gives(best, best_drops, 6, weights, most)


class TestWrong(RingCase):

    def test_no_weights(self):
        for thing in NO_WEIGHTS_OF_3 + NO_LISTS:
            self.fails(NoWeights, loads_after, 3, [[0], [1, 2]], thing, 0)
            self.fails(NoWeights, least_greatest, 3, thing, 2)
            self.fails(NoWeights, best_drops, 3, thing, 2)
            self.fails(NoWeights, fewest_for, 3, thing, 0)
        wrong = [-1, -BIG, MOST_WEIGHT + 1, BIG, True, False, None, "", "1", (), (1,), [], [1], {}, {"1": 1}]
        for changed in with_one_changed([1, 2, 3], wrong):
            self.fails(NoWeights, least_greatest, 3, changed, 3)
        for n in (2, 4, 60):
            self.fails(NoWeights, fewest_for, n, [1, 1, 1], 3)
            self.fails(NoWeights, best_drops, n, [1] * (n + 1), 2)
            self.fails(NoWeights, loads_after, n, [[0], list(range(1, n))], [1] * (n - 1), 0)

    def test_no_number(self):
        for k in (-1, -4, 5, 6, BIG, -BIG):
            self.fails(NoNumber, loads_after, 5, E, W, k)
        for most in (1, 0, -1, -2, -BIG):
            self.fails(NoNumber, least_greatest, 5, W, most)
            self.fails(NoNumber, best_drops, 5, W, most)
        for limit in (-1, -2, -BIG):
            self.fails(NoNumber, fewest_for, 5, W, limit)
            self.fails(NoNumber, fewest_for, 5, [0] * 5, limit)

    def test_no_round(self):
        for thing in NO_ROUNDS_OF_3 + NO_LISTS:
            self.fails(NoRound, loads_after, 3, thing, [1, 1, 1], 0)
            self.fails(NoRound, loads_after, 3, thing, None, -1)
        for n in (2, 4, 6, 60):
            self.fails(NoRound, loads_after, n, E, [1] * n, 0)
        for thing in MANY_BATCHES_OF_60:
            self.fails(NoRound, loads_after, 60, thing, [1] * 60, 0)

    def test_no_ring(self):
        for n in NO_RINGS:
            for thing in (None, [], [1], [1] * 61, W):
                self.fails(NoRing, loads_after, n, E, thing, 0)
                self.fails(NoRing, loads_after, n, None, thing, -1)
                for number in (0, 1, 2, -1):
                    self.fails(NoRing, least_greatest, n, thing, number)
                    self.fails(NoRing, best_drops, n, thing, number)
                    self.fails(NoRing, fewest_for, n, thing, number)

    def test_first_wrong_argument_decides(self):
        self.fails(NoRound, loads_after, 5, [[0, 1, 2, 3, 4]], [1], 9)
        self.fails(NoWeights, loads_after, 5, E, [1], 9)
        self.fails(NoWeights, least_greatest, 5, [1], 1)
        self.fails(NoWeights, best_drops, 5, [1], -1)
        self.fails(NoWeights, fewest_for, 5, [1], -1)


class TestJudgedAnew(RingCase):

    def test_same_weights(self):
        weights = [5, 1, 1, 2, 4]
        self.same([6, 5, 2, 0, 0], loads_after(5, E, weights, 3))
        self.same(7, least_greatest(5, weights, 2))
        weights[0] = 0
        self.same([6, 0, 2, 0, 0], loads_after(5, E, weights, 3))
        self.same(4, least_greatest(5, weights, 5))
        self.same(2, fewest_for(5, weights, 4))
        weights[0] = -1
        self.fails(NoWeights, loads_after, 5, E, weights, 3)
        for function in (least_greatest, best_drops, fewest_for):
            self.fails(NoWeights, function, 5, weights, 2)
        weights[0] = MOST_WEIGHT
        self.same(MOST_WEIGHT, least_greatest(5, weights, 5))
        weights.append(1)
        self.fails(NoWeights, least_greatest, 5, weights, 5)


if __name__ == "__main__":
    unittest.main()
