import unittest

from ringrestart.errors import NoNumber, NoRing, NoRound, NoServer
from ringrestart.running import moves, places_after, run
from support import (
    BIG, NO_LISTS, NO_RINGS, RingCase, all_rounds, one_by_one, plain_drops, plain_ends, plain_moves, plain_places,
    plain_walk, some_rounds)
from test_rings import MANY_BATCHES_OF_60, NO_ROUNDS_OF_3

E = [[1], [0, 3], [4], [2]]


def ahead(n):
    return [[j] for j in range(n)]


def backwards(n):
    return [[j] for j in reversed(range(n))]


class TestExamples(RingCase):

    def test_run(self):
        self.gives([1, 3, 3, 0, 0], run, 5, E)

    def test_places_after(self):
        self.gives([1, 2, 2, 4, 4], places_after, 5, E, 2)
        self.fails(NoNumber, places_after, 5, E, 5)

    def test_moves(self):
        self.gives([1, 2, 3], moves, 5, E, 1)
        self.gives([0, 1, 2, 0], moves, 3, [[0], [1], [2]], 0)


class TestSmallRings(RingCase):

    def test_all_rounds(self):
        for n in (2, 3, 4):
            for batches in all_rounds(n):
                self.gives(plain_places(n, batches, len(batches)), run, n, batches)
                for k in range(len(batches) + 1):
                    self.gives(plain_places(n, batches, k), places_after, n, batches, k)
                for i in range(n):
                    self.gives(plain_moves(n, batches, i), moves, n, batches, i)

    def test_first_drop_behind(self):
        for n in range(2, 7):
            for batches in all_rounds(n):
                self.same(plain_ends(n, plain_drops(n, batches)), run(n, batches))


class TestLargeRings(RingCase):

    def test_some_rounds(self):
        for n in (13, 60):
            for batches in some_rounds(n, 8, n):
                for k in (0, 1, len(batches) // 2, len(batches) - 1, len(batches)):
                    self.gives(plain_places(n, batches, k), places_after, n, batches, k)
                self.gives(plain_places(n, batches, len(batches)), run, n, batches)
                path = [plain_places(n, batches, k) for k in range(len(batches) + 1)]
                for i in (0, 1, n // 2, n - 1):
                    here = [places[i] for places in path]
                    shortened = [here[0]] + [b for a, b in zip(here, here[1:]) if a != b]
                    self.gives(shortened, moves, n, batches, i)

    def test_full_turn(self):
        for n in (2, 3, 5, 59, 60):
            self.gives([0] * n, run, n, ahead(n))
            self.gives(list(range(n)) + [0], moves, n, ahead(n), 0)
            for i in range(1, n):
                self.gives(list(range(i, n)) + [0], moves, n, ahead(n), i)

    def test_full_turn_from_another_server(self):
        batches = [[2], [3], [0], [1]]
        self.gives([2, 2, 2, 2], run, 4, batches)
        self.gives([2, 3, 0, 1, 2], moves, 4, batches, 2)
        self.gives([3, 0, 1, 2], moves, 4, batches, 3)

    def test_full_turn_over_batches(self):
        batches = [[0, 1], [2, 3], [4, 5]]
        self.gives([0, 0, 0, 0, 0, 0], run, 6, batches)
        self.gives([0, 2, 4, 0], moves, 6, batches, 0)
        self.gives([1, 2, 4, 0], moves, 6, batches, 1)
        batches = [[0], [1, 2, 3, 4, 5]]
        self.gives([0, 1, 0], moves, 6, batches, 0)
        batches = [[0, 1, 2, 3, 4], [5]]
        self.gives([5, 0], moves, 6, batches, 5)
        self.gives([2, 5, 0], moves, 6, batches, 2)

    def test_batches_that_go_over_the_last_server(self):
        batches = [[0, 1, 3], [2, 4, 5]]
        self.gives([2, 2, 2, 4, 4, 5], places_after, 6, batches, 1)
        self.gives([3, 3, 3, 0, 0, 0], run, 6, batches)
        batches = [[0, 1, 4, 5], [2, 3]]
        self.gives([2, 2, 2, 3, 2, 2], places_after, 6, batches, 1)
        self.gives([4, 4, 4, 4, 4, 4], run, 6, batches)
        self.gives([4, 2, 4], moves, 6, batches, 4)

    def test_backwards(self):
        for n in (2, 5, 60):
            self.gives(list(range(1, n)) + [1], run, n, backwards(n))
            self.gives([n - 1, 0, 1], moves, n, backwards(n), n - 1)
            for i in range(n - 1):
                self.gives([i, i + 1], moves, n, backwards(n), i)

    def test_one_server_left(self):
        for n in (2, 7, 60):
            for left in (0, 1, n - 1):
                batches = [[j for j in range(n) if j != left], [left]]
                self.gives([left] * n, places_after, n, batches, 1)
                self.gives([(left + 1) % n] * n, run, n, batches)

    def test_no_batch_yet(self):
        for n in (2, 3, 60):
            self.gives(list(range(n)), places_after, n, ahead(n), 0)


class TestGroupByGroup(RingCase):

    def check(self, n, batches):
        walks = [plain_walk(n, batches, i) for i in range(n)]
        for k in range(len(batches) + 1):
            self.same([walk[k] for walk in walks], places_after(n, batches, k))
        self.gives([walk[-1] for walk in walks], run, n, batches)
        for i, walk in enumerate(walks):
            path = [i] + [here for before, here in zip(walk, walk[1:]) if here != before]
            self.same(path, moves(n, batches, i))

    def test_one_server_in_each_batch(self):
        for n in (2, 3, 4, 31, 59, 60):
            for batches in one_by_one(n):
                self.check(n, batches)

    def test_some_batches(self):
        for n in (5, 6, 7, 30, 60):
            for batches in some_rounds(n, 12, n + 6):
                self.check(n, batches)

    def test_two_batches(self):
        for n in (2, 5, 60):
            for many in {1, n // 2, n - 1}:
                low, high = list(range(many)), list(range(many, n))
                self.check(n, [low, high])
                self.check(n, [high, low])
            self.check(n, [list(range(0, n, 2)), list(range(1, n, 2))])


class TestWrong(RingCase):

    def test_no_round(self):
        for thing in NO_ROUNDS_OF_3 + NO_LISTS:
            self.fails(NoRound, run, 3, thing)
            self.fails(NoRound, places_after, 3, thing, 0)
            self.fails(NoRound, moves, 3, thing, 0)
        for n in (2, 4, 6, 60):
            self.fails(NoRound, run, n, E)
            self.fails(NoRound, places_after, n, E, 1)
            self.fails(NoRound, moves, n, E, 1)

    def test_many_batches(self):
        for thing in MANY_BATCHES_OF_60:
            self.fails(NoRound, run, 60, thing)
            self.fails(NoRound, places_after, 60, thing, 0)
            self.fails(NoRound, places_after, 60, thing, len(thing) + 1)
            self.fails(NoRound, moves, 60, thing, 59)
            self.fails(NoRound, moves, 60, thing, 60)

    def test_no_number(self):
        for k in (-1, -2, -4, 5, 6, BIG, -BIG):
            self.fails(NoNumber, places_after, 5, E, k)
        self.fails(NoNumber, places_after, 60, ahead(60), 61)
        self.fails(NoNumber, places_after, 60, [[0], list(range(1, 60))], 3)
        self.fails(NoNumber, places_after, 2, [[0], [1]], -1)

    def test_no_server(self):
        for i in (-1, -5, 5, 6, BIG, -BIG):
            self.fails(NoServer, moves, 5, E, i)
        self.fails(NoServer, moves, 60, ahead(60), 60)
        self.fails(NoServer, moves, 2, [[0], [1]], 2)

    def test_no_ring(self):
        for n in NO_RINGS:
            for thing in (None, [], E, [[0], [1]], ahead(61)):
                self.fails(NoRing, run, n, thing)
                for other in (0, -1, BIG):
                    self.fails(NoRing, places_after, n, thing, other)
                    self.fails(NoRing, moves, n, thing, other)

    def test_first_wrong_argument_decides(self):
        for other in (-1, 5, 100, -BIG):
            self.fails(NoRound, places_after, 5, [[0, 1, 2, 3, 4]], other)
            self.fails(NoRound, places_after, 5, None, other)
            self.fails(NoRound, moves, 5, [[0], [1]], other)
            self.fails(NoRound, moves, 5, (), other)


class TestJudgedAnew(RingCase):

    def test_same_round(self):
        batches = [[0], [1], [2]]
        self.same([0, 0, 0], run(3, batches))
        self.same([1, 1, 2], places_after(3, batches, 1))
        self.same([0, 1, 2, 0], moves(3, batches, 0))
        batches.reverse()
        self.same([1, 2, 1], run(3, batches))
        self.same([0, 1, 0], places_after(3, batches, 1))
        self.same([0, 1], moves(3, batches, 0))
        batches[0].append(0)
        for function, more in ((run, ()), (places_after, (1,)), (moves, (0,))):
            self.fails(NoRound, function, 3, batches, *more)
        batches[0].reverse()
        batches.pop()
        self.same([2, 2, 2], run(3, batches))
        self.same([1, 1, 1], places_after(3, batches, 1))
        self.same([2, 1, 2], moves(3, batches, 2))


if __name__ == "__main__":
    unittest.main()
