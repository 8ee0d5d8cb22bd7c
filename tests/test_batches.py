import random
import unittest

from ringrestart.batches import fewest_apart, fewest_batches, longest_run, round_apart, round_in_batches
from ringrestart.drops import drops_of
from ringrestart.errors import NoDrops, NoRing
from ringrestart.rings import is_round, times
from support import (
    BIG, NO_LISTS, NO_RINGS, RingCase, all_drops, all_rounds, plain_drops, plain_longest, plain_times, some_drops)
from test_rings import NO_DROPS_OF_3

ALL = (fewest_batches, longest_run, round_in_batches, fewest_apart, round_apart)


def rounds_by_drops(n):
    found = {}
    for batches in all_rounds(n):
        found.setdefault(tuple(plain_drops(n, batches)), []).append(batches)
    return found


def neighbours_apart(n, batches):
    when = plain_times(n, batches)
    return all(when[j] != when[j - 1] for j in range(n))


def drops_directly_behind(n, drops, j):
    many = 0
    while (j + many + 1) % n in drops:
        many += 1
    return many


def others(n, drops):
    return [j for j in range(n) if j not in drops]


class TestExamples(RingCase):

    def test_examples(self):
        self.gives(3, fewest_batches, 5, [0, 1, 3])
        self.gives((0, 2), longest_run, 5, [0, 1, 3])
        self.gives([[1, 3], [0, 2], [4]], round_in_batches, 5, [0, 1, 3])
        self.gives(3, fewest_apart, 5, [0, 1, 3])
        self.gives(5, fewest_apart, 5, [0])


class TestSmallRings(RingCase):

    def test_against_all_rounds(self):
        for n in range(2, 6):
            for drops, rounds in rounds_by_drops(n).items():
                drops = list(drops)
                self.gives(min(len(batches) for batches in rounds), fewest_batches, n, drops)
                apart = [batches for batches in rounds if neighbours_apart(n, batches)]
                self.gives(min(len(batches) for batches in apart), fewest_apart, n, drops)
                self.assertIn(round_in_batches(n, drops), rounds)
                self.assertIn(round_apart(n, drops), apart)

    def test_longest_run(self):
        for n in range(2, 8):
            for drops in all_drops(n):
                runs = [[(first + at) % n for at in range(many)] for first in range(n) for many in range(1, n)]
                runs = [run for run in runs if all(j in drops for j in run)]
                length = max(len(run) for run in runs)
                first = min(run[0] for run in runs if len(run) == length)
                self.gives((first, length), longest_run, n, drops)

    def test_times_are_the_drops_directly_behind(self):
        for n in range(2, 8):
            for drops in all_drops(n):
                self.same([drops_directly_behind(n, drops, j) for j in range(n)], times(n, round_in_batches(n, drops)))


class TestLargeRings(RingCase):

    def test_fewest(self):
        for n in (2, 3, 17, 31, 59, 60):
            for drops in some_drops(n, n):
                many = 1 + plain_longest(n, drops)
                self.gives(many, fewest_batches, n, drops)
                batches = round_in_batches(n, drops)
                self.assertIs(True, is_round(n, batches))
                self.assertEqual(many, len(batches))
                self.same(drops, drops_of(n, batches))
                behind = [drops_directly_behind(n, drops, j) for j in range(n)]
                self.gives([[j for j in range(n) if behind[j] == k] for k in range(many)], round_in_batches, n, drops)
                first, length = longest_run(n, drops)
                self.assertEqual(many - 1, length)
                self.assertTrue(all((first + at) % n in drops for at in range(length)))

    def test_apart(self):
        for n in (2, 3, 17, 31, 59, 60):
            for drops in some_drops(n, 2 * n):
                many = 1 + max(plain_longest(n, drops), plain_longest(n, others(n, drops)))
                self.gives(many, fewest_apart, n, drops)
                batches = round_apart(n, drops)
                self.gives(batches, round_apart, n, drops)
                self.assertIs(True, is_round(n, batches))
                self.assertEqual(many, len(batches))
                self.same(drops, drops_of(n, batches))
                self.assertTrue(neighbours_apart(n, batches))


class TestEdges(RingCase):

    def test_two_servers(self):
        for drops, batches in (([0], [[0], [1]]), ([1], [[1], [0]])):
            self.gives(2, fewest_batches, 2, drops)
            self.gives((drops[0], 1), longest_run, 2, drops)
            self.gives(batches, round_in_batches, 2, drops)
            self.gives(2, fewest_apart, 2, drops)
            self.gives(batches, round_apart, 2, drops)

    def test_one_drop(self):
        for n in (3, 5, 60):
            for j in (0, 1, n - 1):
                self.gives(2, fewest_batches, n, [j])
                self.gives((j, 1), longest_run, n, [j])
                self.gives([others(n, [(j - 1) % n]), [(j - 1) % n]], round_in_batches, n, [j])
                self.gives(n, fewest_apart, n, [j])
                self.gives([[(j + at) % n] for at in range(n)], round_apart, n, [j])

    def test_all_but_one(self):
        for n in (3, 5, 60):
            for j in (0, 1, n - 1):
                drops = others(n, [j])
                self.gives(n, fewest_batches, n, drops)
                self.gives(((j + 1) % n, n - 1), longest_run, n, drops)
                one_by_one = [[(j - 1 - at) % n] for at in range(n)]
                self.gives(one_by_one, round_in_batches, n, drops)
                self.gives(n, fewest_apart, n, drops)
                self.gives(one_by_one, round_apart, n, drops)

    def test_longest_run_over_the_end(self):
        self.gives((4, 3), longest_run, 6, [0, 4, 5])
        self.gives((5, 2), longest_run, 6, [0, 5])
        self.gives((5, 3), longest_run, 6, [0, 1, 3, 5])
        self.gives((58, 4), longest_run, 60, [0, 1, 20, 21, 22, 58, 59])
        self.gives(5, fewest_batches, 60, [0, 1, 20, 21, 22, 58, 59])
        self.gives((20, 4), longest_run, 60, [0, 1, 20, 21, 22, 23, 58, 59])

    def test_least_first_server_wins(self):
        self.gives((1, 1), longest_run, 6, [1, 3, 5])
        self.gives((0, 1), longest_run, 6, [0, 2, 4])
        self.gives((2, 2), longest_run, 7, [2, 3, 5, 6])
        self.gives((1, 2), longest_run, 8, [1, 2, 4, 5, 7])
        self.gives((3, 2), longest_run, 8, [0, 3, 4, 7])

    def test_odd_rings_apart(self):
        for n in (3, 5, 7, 59):
            every_second = list(range(0, n - 1, 2))
            self.gives(2, fewest_batches, n, every_second)
            self.gives(3, fewest_apart, n, every_second)
            self.assertTrue(neighbours_apart(n, round_apart(n, every_second)))
            for drops in some_drops(n, n):
                self.assertLess(2, fewest_apart(n, drops))
        for n in (2, 4, 60):
            self.gives(2, fewest_apart, n, list(range(0, n, 2)))
            self.gives([list(range(1, n, 2)), list(range(0, n, 2))], round_apart, n, list(range(1, n, 2)))

    def test_apart_only_the_others_are_many(self):
        self.gives(2, fewest_batches, 8, [0, 4])
        self.gives(4, fewest_apart, 8, [0, 4])
        self.gives(3, fewest_batches, 8, [0, 1])
        self.gives(7, fewest_apart, 8, [0, 1])


class TestWrong(RingCase):

    def test_no_drops(self):
        for function in ALL:
            for thing in NO_DROPS_OF_3 + NO_LISTS:
                self.fails(NoDrops, function, 3, thing)
            for n in (2, 59, 60):
                for thing in ([], [n], [-1], [0, BIG], list(range(n)), list(range(1, n + 1)), [True], [0] * n):
                    self.fails(NoDrops, function, n, thing)

    def test_no_ring(self):
        for function in ALL:
            for n in NO_RINGS:
                for thing in (None, [], [0], [1, 0], list(range(61))):
                    self.fails(NoRing, function, n, thing)


class TestJudgedAnew(RingCase):

    def test_same_drops(self):
        drops = [1]
        self.same((1, 1), longest_run(4, drops))
        self.same([[1, 2, 3], [0]], round_in_batches(4, drops))
        drops.append(2)
        self.same(3, fewest_batches(4, drops))
        self.same((1, 2), longest_run(4, drops))
        self.same([[2, 3], [1], [0]], round_in_batches(4, drops))
        self.same(3, fewest_apart(4, drops))
        drops.append(2)
        for function in ALL:
            self.fails(NoDrops, function, 4, drops)
        drops.pop()
        drops[1] = 3
        self.same(2, fewest_batches(4, drops))
        self.same([[1, 3], [0, 2]], round_apart(4, drops))

    def test_results_may_be_changed(self):
        source = random.Random(4)
        for _ in range(20):
            drops = sorted(source.sample(range(9), source.randrange(1, 9)))
            for function in (round_in_batches, round_apart):
                first = function(9, drops)
                text = repr(first)
                first[0].append(-1)
                first.clear()
                self.assertEqual(text, repr(function(9, drops)))


if __name__ == "__main__":
    unittest.main()
