import math
import random
import unittest
from fractions import Fraction

from ringrestart.drops import drops_of
from ringrestart.errors import NoDrops, NoNumber, NoOrder, NoRing, NoServer
from ringrestart.orders import chance, counts_by_drops, least_order, nth_order, order_count, order_number
from support import (
    BIG, NO_LISTS, NO_RINGS, NO_SERVERS_INSIDE, RingCase, all_drops, orders_by_drops, plain_ends, some_drops,
    with_one_changed)
from test_rings import NO_DROPS_OF_3

NO_ORDERS_OF_3 = [
    [], [0], [0, 1], [0, 1, 1], [0, 0, 0], [2, 2, 1], [0, 1, 2, 0], [0, 1, 2, 3], [1, 2, 3], [0, 1, 3], [-1, 0, 1],
    [0, 1, -1], [True, 0, 2], [False, 1, 2], [0, True, 2], [0, 1, None], ["0", "1", "2"], [0, 1, "2"], [[0], [1], [2]],
    [[0, 1, 2]], [[0, 1], 2], [0, 1, (2,)], [0, 1, [2]], [0, 1, {}], [0, 1, BIG], [-BIG, 1, 2], [0] * 2900,
    [[[[[[0]]]]]],
]


def drops_of_order(n, order):
    return drops_of(n, [[j] for j in order])


def zigzags(many):
    """The numbers of sequences of 0, 1, 2, ... numbers that go up and down in turn (Euler's zigzag numbers)."""
    found = [1]
    row = [1]
    for _ in range(many):
        sums = [0]
        for number in reversed(row):
            sums.append(sums[-1] + number)
        row = sums
        found.append(row[-1])
    return found


class TestExamples(RingCase):

    def test_counts(self):
        self.gives(8, order_count, 5, [0, 1, 3])
        self.gives([3, 3], counts_by_drops, 3)
        self.gives([4, 16, 4], counts_by_drops, 4)

    def test_orders(self):
        self.gives([0, 1, 2], least_order, 3, [0])
        self.gives([1, 0, 2], nth_order, 3, [0, 1], 0)
        self.gives(0, order_number, 3, [1, 0, 2])
        self.fails(NoNumber, nth_order, 3, [0], 1)

    def test_chance(self):
        self.gives((1, 2), chance, 5, 0, 1)
        self.gives((1, 3), chance, 5, 0, 2)
        self.gives((1, 120), chance, 5, 0, 0)


class TestSmallRings(RingCase):

    def test_against_all_orders(self):
        for n in range(2, 7):
            found = orders_by_drops(n)
            self.assertEqual({tuple(drops) for drops in all_drops(n)}, set(found))
            for drops, good in found.items():
                drops = list(drops)
                self.gives(len(good), order_count, n, drops)
                self.gives(good[0], least_order, n, drops)
                for number, order in enumerate(good):
                    self.same(order, nth_order(n, drops, number))
                    self.same(number, order_number(n, order))

    def test_by_position_and_by_name(self):
        for drops, good in orders_by_drops(4).items():
            for number, order in enumerate(good):
                self.gives(order, nth_order, 4, list(drops), number)
                self.gives(number, order_number, 4, order)

    def test_counts_by_drops(self):
        for n in range(2, 8):
            found = orders_by_drops(n)
            counts = [sum(len(found[drops]) for drops in found if len(drops) == many) for many in range(1, n)]
            self.gives(counts, counts_by_drops, n)

    def test_counts_add_up(self):
        for n in range(2, 10):
            sums = [0] * (n - 1)
            for drops in all_drops(n):
                sums[len(drops) - 1] += order_count(n, drops)
            self.gives(sums, counts_by_drops, n)

    def test_chance(self):
        for n in range(2, 7):
            found = orders_by_drops(n)
            ends = {drops: plain_ends(n, drops) for drops in found}
            for i in range(n):
                for j in range(n):
                    part = Fraction(sum(len(found[drops]) for drops in found if ends[drops][i] == j), math.factorial(n))
                    self.gives((part.numerator, part.denominator), chance, n, i, j)


class TestLargeRings(RingCase):

    def test_number_of_the_order_with_a_number(self):
        source = random.Random(10)
        for n in (2, 3, 8, 23, 60):
            for drops in some_drops(n, n):
                count = order_count(n, drops)
                self.gives(count, order_count, n, drops)
                for number in {0, count // 2, count - 1, source.randrange(count)}:
                    order = nth_order(n, drops, number)
                    self.same(sorted(order), list(range(n)))
                    self.same(drops, drops_of_order(n, order))
                    self.same(number, order_number(n, order))
                self.fails(NoNumber, nth_order, n, drops, count)
                self.fails(NoNumber, nth_order, n, drops, -1)

    def test_order_with_the_number_of_an_order(self):
        source = random.Random(11)
        for n in (7, 30, 59, 60):
            for _ in range(6):
                order = source.sample(range(n), n)
                drops = drops_of_order(n, order)
                number = order_number(n, order)
                self.assertTrue(0 <= number < order_count(n, drops))
                self.gives(number, order_number, n, order)
                self.gives(order, nth_order, n, drops, number)

    def test_ascending(self):
        for n in (8, 23, 60):
            for drops in some_drops(n, 3 * n):
                count = order_count(n, drops)
                numbers = sorted({number for number in (0, 1, 2, count // 3, count // 3 + 1, count - 2, count - 1)
                                  if 0 <= number < count})
                orders = [nth_order(n, drops, number) for number in numbers]
                self.assertEqual(orders, sorted(orders))
                self.assertEqual(len(orders), len({tuple(order) for order in orders}))

    def test_least_order(self):
        for n in (2, 3, 8, 23, 60):
            for drops in some_drops(n, 5 * n):
                least = least_order(n, drops)
                self.gives(least, least_order, n, drops)
                self.same(least, nth_order(n, drops, 0))
                self.same(0, order_number(n, least))

    def test_one_drop_and_all_but_one(self):
        for n in (2, 3, 5, 60):
            for j in (0, 1, n - 1):
                ahead = [(j + at) % n for at in range(n)]
                back = [(j - 1 - at) % n for at in range(n)]
                for drops, order in (([j], ahead), ([k for k in range(n) if k != j], back)):
                    self.gives(1, order_count, n, drops)
                    self.gives(order, least_order, n, drops)
                    self.gives(order, nth_order, n, drops, 0)
                    self.gives(0, order_number, n, order)
                    self.fails(NoNumber, nth_order, n, drops, 1)

    def test_every_second_server(self):
        # The first server to be restarted is one of n / 2; the others are a zigzag.
        numbers = zigzags(60)
        for n in (2, 4, 6, 10, 34, 60):
            for first in (0, 1):
                drops = list(range(first, n, 2))
                self.gives(n // 2 * numbers[n - 1], order_count, n, drops)

    def test_few_drops(self):
        # With drops 0 and d the orders are those that ascend from both of them to the next one, less two.
        for n in (3, 7, 60):
            for d in {1, 2, n // 2, n - 1}:
                count = math.comb(n, d) - 2
                self.gives(count, order_count, n, [0, d])
                shifted = sorted([n - 1, (n - 1 + d) % n])
                self.gives(count, order_count, n, shifted)

    def test_turned_and_reversed(self):
        for n in (9, 31, 60):
            for drops in some_drops(n, 7 * n):
                count = order_count(n, drops)
                for turn in (1, n // 2, n - 1):
                    self.same(count, order_count(n, sorted((j + turn) % n for j in drops)))
                self.same(count, order_count(n, [j for j in range(n) if j not in drops]))

    def test_first_server_splits_the_orders(self):
        n, drops = 60, list(range(0, 60, 3))
        count = order_count(n, drops)
        self.assertEqual(drops[0], nth_order(n, drops, 0)[0])
        low, high = 0, count - 1
        self.assertEqual(57, nth_order(n, drops, high)[0])
        while low < high:
            middle = (low + high) // 2
            if nth_order(n, drops, middle)[0] > 0:
                high = middle
            else:
                low = middle + 1
        # By symmetry each of the 20 drops comes first in as many orders as each other one.
        self.assertEqual(count, 20 * low)

    def test_counts_by_drops(self):
        for n in (2, 3, 10, 59, 60):
            counts = counts_by_drops(n)
            self.gives(counts, counts_by_drops, n)
            self.assertEqual(n - 1, len(counts))
            self.assertEqual(math.factorial(n), sum(counts))
            self.assertEqual(counts, counts[::-1])
            self.assertEqual(n, counts[0])
        self.gives([2], counts_by_drops, 2)
        self.assertEqual(sum(order_count(60, [0, d]) for d in range(1, 60)) * 60 // 2, counts_by_drops(60)[1])

    def test_chances_add_up(self):
        for n in (2, 3, 7, 59, 60):
            for i in (0, 1, n - 1):
                chances = [chance(n, i, j) for j in range(n)]
                self.assertEqual(1, sum(Fraction(*each) for each in chances))
                for top, bottom in chances:
                    self.assertEqual(1, math.gcd(top, bottom))
                    self.assertLess(0, bottom)

    def test_chance_of_own_server_and_of_the_next_one(self):
        for n in (2, 3, 4, 60):
            for i in {0, 1, n - 1}:
                self.gives((1, math.factorial(n)), chance, n, i, i)
                self.gives((1, 2), chance, n, i, (i + 1) % n)
        self.gives((1, 3), chance, 60, 59, 1)
        self.gives((1, 8), chance, 60, 58, 1)
        self.gives((1, 3), chance, 3, 0, 2)
        self.gives((1, 2), chance, 2, 1, 0)


class TestWrong(RingCase):

    def test_no_drops(self):
        for thing in NO_DROPS_OF_3 + NO_LISTS:
            self.fails(NoDrops, order_count, 3, thing)
            self.fails(NoDrops, least_order, 3, thing)
            for number in (0, -1, BIG):
                self.fails(NoDrops, nth_order, 3, thing, number)
        for n in (2, 59, 60):
            self.fails(NoDrops, order_count, n, list(range(n)))
            self.fails(NoDrops, least_order, n, [n])
            self.fails(NoDrops, nth_order, n, [], 0)

    def test_no_number(self):
        for number in (8, 9, -1, -8, BIG, -BIG):
            self.fails(NoNumber, nth_order, 5, [0, 1, 3], number)
        for number in (1, 2, -1, BIG):
            self.fails(NoNumber, nth_order, 60, [59], number)
        self.fails(NoNumber, nth_order, 60, list(range(0, 60, 2)), BIG)
        self.fails(NoNumber, nth_order, 60, list(range(0, 60, 2)), math.factorial(60))

    def test_no_order(self):
        for thing in NO_ORDERS_OF_3 + NO_LISTS:
            self.fails(NoOrder, order_number, 3, thing)
        for changed in with_one_changed([1, 2, 0], [3] + NO_SERVERS_INSIDE):
            self.fails(NoOrder, order_number, 3, changed)
        for n in (2, 4, 60):
            self.fails(NoOrder, order_number, n, [0, 1, 2])
            self.fails(NoOrder, order_number, n, [0] * n)
            self.fails(NoOrder, order_number, n, list(range(1, n + 1)))

    def test_no_server(self):
        for n in (2, 5, 60):
            for wrong in (-1, -n, n, n + 1, BIG, -BIG):
                self.fails(NoServer, chance, n, wrong, 0)
                self.fails(NoServer, chance, n, 0, wrong)
                self.fails(NoServer, chance, n, wrong, wrong)

    def test_no_ring(self):
        for n in NO_RINGS:
            self.fails(NoRing, counts_by_drops, n)
            for i, j in ((0, 0), (-1, 0), (0, 100)):
                self.fails(NoRing, chance, n, i, j)
            for thing in (None, [], [0], [0, 1], list(range(61))):
                self.fails(NoRing, order_count, n, thing)
                self.fails(NoRing, least_order, n, thing)
                self.fails(NoRing, nth_order, n, thing, 0)
                self.fails(NoRing, nth_order, n, thing, -1)
                self.fails(NoRing, order_number, n, thing)


class TestJudgedAnew(RingCase):

    def test_same_drops(self):
        drops = [0, 1]
        self.same(3, order_count(5, drops))
        self.same([1, 0, 2, 3, 4], least_order(5, drops))
        drops[1] = 2
        self.same(8, order_count(5, drops))
        self.same([0, 2, 1, 3, 4], least_order(5, drops))
        self.same([0, 2, 1, 3, 4], nth_order(5, drops, 0))
        drops[1] = 0
        self.fails(NoDrops, order_count, 5, drops)
        self.fails(NoDrops, nth_order, 5, drops, 0)

    def test_same_order(self):
        order = [0, 2, 1, 3]
        self.same(0, order_number(4, order))
        order[0], order[1] = order[1], order[0]
        self.same(2, order_number(4, order))
        order[0] = 0
        self.fails(NoOrder, order_number, 4, order)


if __name__ == "__main__":
    unittest.main()
