import itertools
import random
import unittest

from ringrestart.drops import drops_of, ends, possible
from ringrestart.errors import Impossible, NoAssignment, NoDrops, NoNumber, NoRing, NoRound
from ringrestart.rings import is_assignment, is_drops
from ringrestart.rounds import after, all_rounds, plan, possible_after, reason_after, repeated, shows_after
from ringrestart.running import run
from support import (
    BIG, NO_LISTS, NO_RINGS, NO_SERVERS_INSIDE, RingCase, all_assignments, all_drops, one_by_one, plain_after,
    plain_ends, some_drops, some_rounds)
from support import all_rounds as rounds_of_ring
from test_drops import NO_CERTIFICATES
from test_rings import NO_ASSIGNMENTS_OF_3, NO_DROPS_OF_3, NO_ROUNDS_OF_3

E = [[1], [0, 3], [4], [2]]

# No lists of rounds of a ring of 3.
NO_LISTS_OF_ROUNDS_OF_3 = NO_LISTS + [
    [None], [True], [0], [""], ["0 / 1 2"], [[]], [[[]]], [[[0]]], [[[0, 1, 2]]], [[[0], [1]]], [[0], [1], [2]],
    [[0, 1], [2]], [([0], [1, 2])], [[(0,), (1, 2)]], [[[0], [2, 1]]], [[[0], [1, 3]]], [[[0], [1, True]]],
    [[[False], [1, 2]]], [[[0], [1, 2]], None], [[[0], [1, 2]], [[0], [1]]], [None, [[0], [1, 2]]], [E],
    [[[0], [1, 2]]] * 19 + [[[0, 1, 2]]], [[[0], [1, 2]]] * 21, [[[0], [1, 2]]] * 500, [[[[0], [1, 2]]]],
    {"0": [[0], [1, 2]]}, ([[0], [1, 2]],),
]

NO_CERTIFICATES_AROUND = [
    ("around",), ("around", None), ("around", True), ("around", 3), ("around", ""), ("around", "012"),
    ("around", ()), ("around", {}), ("around", []), ("around", [0]), ("around", [0, 1]), ("around", (0, 1, 2)),
    ("around", [[0, 1, 2]]), ("around", 0, 1, 2), ("around", [0, 1, 2], None), ("around", [0, 1, 2], [0, 1, 2]),
    ["around", [0, 1, 2]], {"around": [0, 1, 2]}, ("Around", [0, 1, 2]), ("around ", [0, 1, 2]),
    ([0, 1, 2], "around"), ([0, 1, 2],), (("around", [0, 1, 2]),), ("all", [0, 1, 2]), ("passed", [0, 1, 2]),
    (None, [0, 1, 2]), (True, [0, 1, 2]), ("around", [0, 2, 1]), ("around", [2, 1, 0]), ("around", [1, 2, 0]),
    ("around", [0, 0, 1, 2]), ("around", [0, 1, 1]), ("around", [0, 1, 2, 2]), ("around", [0, 1, 4]),
    ("around", [-1, 0, 1, 2]), ("around", [-4, -3, -2]), ("around", [0, 1, BIG]), ("around", [-BIG, 1, 2]),
    ("around", [False, 1, 2]), ("around", [0, True, 2]), ("around", [0, 1, 2, None]), ("around", ["0", "1", "2"]),
    ("around", [0, "1", 2]), ("around", [[0], [1], [2]]), ("around", [(0,), (1,), (2,)]), ("around", [0, [1], 2]),
    ("around", [0, {}, 2]), ("around", [0] * 2900), ("around", list(range(2900))), ("around", [None] * 2900),
    ("rounds", [0, 1, 2]),
]


def plain_continuations(n, assignment):
    """The places of the groups on the line, for one choice of the turns of group 0; a jump of n may be anywhere."""
    steps = [(assignment[(i + 1) % n] - assignment[i]) % n for i in range(n)]
    choices = [steps]
    if not any(steps):
        choices = [[n if i == jump else 0 for i in range(n)] for jump in range(n)]
    return [[assignment[0] + sum(choice[:i]) for i in range(n)] for choice in choices if sum(choice) == n]


def plain_allows(n, assignment, r):
    """R5, word by word, for all turns."""
    for places in plain_continuations(n, assignment):
        line = places + [place + n for place in places]
        lasts = [i for i in range(n) if line[i] != line[i + 1]]
        m = len(lasts)
        for turns in range(-2, r + 2):
            values = [line[i] + turns * n for i in lasts]
            behind = [lasts[(k + r - 1) % m] + (k + r - 1) // m * n for k in range(m)]
            if m < n and all(lasts[k] + r <= values[k] <= behind[k] + 1 for k in range(m)):
                return True
    return False


def plain_around(n, assignment, groups):
    around = zip(groups, groups[1:] + groups[:1])
    return sum((assignment[j] - assignment[i]) % n for i, j in around) >= 2 * n


def inside(intervals, r):
    return any(least <= r and (greatest is None or r <= greatest) for least, greatest in intervals)


def results_by_rounds(n, most):
    """For 1, 2, ... rounds the set of all results, found by putting all rounds together."""
    single = {tuple(plain_after(n, [batches])) for batches in rounds_of_ring(n)}
    found = [None, single]
    while len(found) <= most:
        found.append({tuple(g[j] for j in f) for f in found[-1] for g in single})
    return found


def some_results(n, seed):
    """Assignments of a large ring after some rounds, with few plateaus and with many."""
    source = random.Random(seed)
    found = []
    for many in (1, 1, 2, 3, 5, 8):
        places = list(range(n))
        for _ in range(many):
            drops = sorted(source.sample(range(n), source.choice([n // 6 + 1, n // 2, max(1, n - 2), n - 1])))
            behind = plain_ends(n, drops)
            places = [behind[j] for j in places]
        found.append(places)
    return found


class TestAfter(RingCase):

    def test_examples(self):
        self.gives([0, 1, 2, 3, 4], after, 5, [])
        self.gives([3, 0, 0, 1, 1], after, 5, [E, E])

    def test_no_round(self):
        for n in (2, 3, 59, 60):
            self.gives(list(range(n)), after, n, [])

    def test_small_rings(self):
        for n in (2, 3):
            rounds = rounds_of_ring(n)
            for many in (1, 2, 3):
                for some in itertools.product(rounds, repeat=many):
                    self.same(plain_after(n, list(some)), after(n, list(some)))
        for n in (4, 5):
            source = random.Random(n)
            rounds = rounds_of_ring(n)
            for many in range(21):
                some = [source.choice(rounds) for _ in range(many)]
                self.gives(plain_after(n, some), after, n, some)

    def test_one_round(self):
        for n in (2, 3, 4):
            for batches in rounds_of_ring(n):
                self.gives(run(n, batches), after, n, [batches])

    def test_order_of_rounds(self):
        self.gives([2, 2, 2], after, 3, [[[0], [1], [2]], [[2], [0], [1]]])
        self.gives([0, 0, 0], after, 3, [[[2], [0], [1]], [[0], [1], [2]]])

    def test_large_rings(self):
        for n in (17, 60):
            rounds = some_rounds(n, 20, 3 * n)
            for many in (1, 2, 7, 20):
                self.gives(plain_after(n, rounds[:many]), after, n, rounds[:many])
            for batches in one_by_one(n):
                self.gives(plain_after(n, [batches] * 3), after, n, [batches] * 3)

    def test_twenty_rounds_and_more(self):
        self.gives([2, 2, 0, 0, 0], after, 5, [[[0, 2], [1, 3, 4]]] * 19)
        self.gives([0, 0, 2, 2, 2], after, 5, [[[0, 2], [1, 3, 4]]] * 20)
        for n in (5, 60):
            self.fails(NoRound, after, n, [[[j] for j in range(n)]] * 21)

    def test_wrong(self):
        for thing in NO_LISTS_OF_ROUNDS_OF_3 + [[each] for each in NO_ROUNDS_OF_3]:
            self.fails(NoRound, after, 3, thing)
            self.fails(NoRing, after, 61, thing)
        self.fails(NoRound, after, 5, E)
        for n in (2, 4, 6, 60):
            self.fails(NoRound, after, n, [E])
        for n in NO_RINGS:
            for thing in (None, [], [E], [E] * 21):
                self.fails(NoRing, after, n, thing)

    def test_rounds_are_judged_anew(self):
        rounds = [[[0], [1], [2]]]
        self.same([0, 0, 0], after(3, rounds))
        rounds.append(rounds[0])
        self.same([0, 0, 0], after(3, rounds))
        rounds[0].reverse()
        self.same([2, 1, 2], after(3, rounds))
        rounds[0][0].append(1)
        self.fails(NoRound, after, 3, rounds)
        rounds.clear()
        self.same([0, 1, 2], after(3, rounds))


class TestRepeated(RingCase):

    def test_examples(self):
        self.gives([3, 0, 0, 1, 1], repeated, 5, [0, 1, 3], 2)

    def test_small_rings(self):
        for n in range(2, 7):
            for drops in all_drops(n):
                behind = plain_ends(n, drops)
                places = list(range(n))
                for r in range(2 * n + 2):
                    if n < 6:
                        self.gives(places, repeated, n, drops, r)
                    self.same(places, repeated(n, drops, r))
                    places = [behind[j] for j in places]

    def test_large_rings(self):
        for n in (13, 60):
            for drops in some_drops(n, 2 * n):
                behind = plain_ends(n, drops)
                places = list(range(n))
                for r in range(125):
                    if r in (0, 1, 2, 59, 60, 61, 124):
                        self.gives(places, repeated, n, drops, r)
                    places = [behind[j] for j in places]

    def test_many_digits(self):
        for n in (2, 5, 60):
            for drops in some_drops(n, n):
                # From the first round on the results come again after as many rounds as there are drops.
                for r in (BIG, 10 ** 89, 10 ** 89 + 1):
                    again = (r - 1) % len(drops) + 1
                    self.gives(repeated(n, drops, again), repeated, n, drops, r)
        self.gives([0, 0, 0], repeated, 3, [0], BIG)
        self.gives([1, 0, 0], repeated, 3, [0, 1], BIG)
        self.gives([0, 1, 1], repeated, 3, [0, 1], BIG - 1)

    def test_wrong(self):
        for thing in NO_DROPS_OF_3 + NO_LISTS:
            for r in (0, 1, -1):
                self.fails(NoDrops, repeated, 3, thing, r)
        for r in (-1, -2, -BIG):
            self.fails(NoNumber, repeated, 3, [0], r)
            self.fails(NoDrops, repeated, 3, [], r)
            for n in NO_RINGS:
                self.fails(NoRing, repeated, n, [], r)
                self.fails(NoRing, repeated, n, [0], 1)

    def test_drops_are_judged_anew(self):
        drops = [0, 1]
        self.same([0, 1, 1], repeated(3, drops, 2))
        drops.pop()
        self.same([0, 0, 0], repeated(3, drops, 2))
        drops.append(0)
        self.fails(NoDrops, repeated, 3, drops, 2)


class TestAllRounds(RingCase):

    def test_examples(self):
        self.gives([(4, None)], all_rounds, 5, [3, 3, 0, 0, 0])
        self.gives(False, possible_after, 5, [3, 3, 0, 0, 0], 3)
        self.gives(True, possible_after, 5, [3, 3, 0, 0, 0], 10 ** 30)
        self.gives([(1, None)], all_rounds, 3, [2, 2, 2])
        self.gives([], all_rounds, 3, [1, 2, 0])

    def test_against_all_rounds_put_together(self):
        for n in (2, 3, 4):
            results = results_by_rounds(n, 5)
            for assignment in all_assignments(n):
                intervals = all_rounds(n, assignment)
                self.gives(intervals, all_rounds, n, assignment)
                for r in range(1, 6):
                    expected = tuple(assignment) in results[r]
                    self.assertEqual(expected, inside(intervals, r))
                    self.gives(expected, possible_after, n, assignment, r)

    def test_many_rounds_put_together(self):
        for n in (2, 3, 4, 5):
            most = n * n
            results = results_by_rounds(n, most)
            for assignment in all_assignments(n):
                intervals = all_rounds(n, assignment)
                for r in range(1, most + 1):
                    self.assertEqual(tuple(assignment) in results[r], inside(intervals, r))
                # So many rounds are enough to come to the last interval.
                if intervals:
                    self.assertLess(intervals[-1][0], most)
                    self.assertEqual(intervals[-1][1], None)

    def check_form(self, intervals):
        """Ascending tuples of integers, as long as possible; only the last one has no end."""
        for least, greatest in intervals[:-1]:
            self.assertTrue(1 <= least <= greatest)
        for (_, greatest), (least, _) in zip(intervals, intervals[1:]):
            self.assertGreater(least, greatest + 1)
        if intervals:
            self.assertIsNone(intervals[-1][1])
            self.assertGreaterEqual(intervals[-1][0], 1)
        for each in intervals:
            self.assertIs(tuple, type(each))

    def test_form(self):
        for n in (2, 3, 4, 5):
            for assignment in all_assignments(n):
                self.check_form(all_rounds(n, assignment))
        for n in (30, 60):
            for assignment in some_results(n, n):
                self.check_form(all_rounds(n, assignment))

    def test_just_inside_and_just_outside(self):
        for n in (6, 23, 60):
            for assignment in some_results(n, n + 1):
                intervals = all_rounds(n, assignment)
                self.gives(intervals, all_rounds, n, assignment)
                self.assertNotEqual([], intervals)
                for least, greatest in intervals[:8]:
                    for edge in (least, least if greatest is None else greatest):
                        for r in range(max(1, edge - 2), edge + 3):
                            expected = plain_allows(n, assignment, r)
                            self.assertEqual(expected, inside(intervals, r))
                            self.gives(expected, possible_after, n, assignment, r)

    def test_all_numbers_of_a_large_ring(self):
        for assignment in some_results(20, 7):
            intervals = all_rounds(20, assignment)
            for r in range(1, 100):
                self.assertEqual(plain_allows(20, assignment, r), inside(intervals, r))

    def test_many_intervals(self):
        # All servers but one are ends: with every turn one more number of rounds is possible than with the one before.
        for n in (3, 4, 7, 60):
            assignment = list(range(1, n)) + [1]
            expected = [(1, 1)] + [(turns * (n - 1) + 1, turns * n + 1) for turns in range(1, n - 2)]
            self.gives(expected + [((n - 2) * (n - 1) + 1, None)], all_rounds, n, assignment)

    def test_intervals_that_touch(self):
        # 10 to 12 and 13 to 16 touch; between 7 to 8 and 10 stands 9 alone.
        self.gives([(4, 4), (7, 8), (10, None)], all_rounds, 4, [1, 2, 3, 3])
        self.gives([(6, 6), (9, 10), (12, None)], all_rounds, 4, [3, 0, 1, 1])
        self.gives([(2, 2), (4, None)], all_rounds, 4, [0, 0, 0, 1])
        for r, expected in ((3, False), (4, True), (5, False), (6, False), (7, True), (8, True), (9, False),
                            (10, True), (12, True), (13, True), (16, True), (17, True), (BIG, True)):
            self.gives(expected, possible_after, 4, [1, 2, 3, 3], r)

    def test_all_ends_equal(self):
        for n in (2, 3, 59, 60):
            for j in (0, 1, n // 2, n - 1):
                self.gives([(1, None)], all_rounds, n, [j] * n)
                for r in (1, 2, n - 1, n, n + 1, BIG):
                    self.gives(True, possible_after, n, [j] * n, r)

    def test_all_ends_different(self):
        for n in (2, 3, 60):
            for first in (0, 1, n - 1):
                turned = [(first + i) % n for i in range(n)]
                for assignment in (turned, turned[::-1]):
                    self.gives([], all_rounds, n, assignment)
                    for r in (1, n, BIG):
                        self.gives(False, possible_after, n, assignment, r)

    def test_one_round(self):
        for n in (2, 3, 4, 5):
            for assignment in all_assignments(n):
                self.assertEqual(possible(n, assignment), possible_after(n, assignment, 1))

    def test_many_digits(self):
        for n in (5, 60):
            for assignment in some_results(n, 9):
                for r in (10 ** 30, 10 ** 89, BIG):
                    self.gives(True, possible_after, n, assignment, r)

    def test_turned_rings(self):
        for n in (4, 5, 60):
            some = all_assignments(4) if n == 4 else some_results(n, 11)
            for assignment in some:
                for turn in (1, 2, n - 1):
                    turned = [(assignment[(i - turn) % n] + turn) % n for i in range(n)]
                    self.same(all_rounds(n, assignment), all_rounds(n, turned))
                    if n == 4:
                        # A turn of the ends alone is another question, but not whether there is an answer.
                        aside = [(j + turn) % n for j in assignment]
                        self.assertEqual(all_rounds(n, assignment) == [], all_rounds(n, aside) == [])

    def test_wrong(self):
        for thing in NO_ASSIGNMENTS_OF_3 + NO_LISTS:
            self.fails(NoAssignment, all_rounds, 3, thing)
            self.fails(NoAssignment, possible_after, 3, thing, 1)
            self.fails(NoAssignment, possible_after, 3, thing, 0)
        for r in (0, -1, -2, -BIG):
            self.fails(NoNumber, possible_after, 3, [0, 0, 0], r)
            self.fails(NoNumber, possible_after, 3, [1, 2, 0], r)
            self.fails(NoAssignment, possible_after, 3, [0, 0], r)
        for n in NO_RINGS:
            for thing in (None, [], [0, 0, 0], [0] * 61):
                self.fails(NoRing, all_rounds, n, thing)
                self.fails(NoRing, possible_after, n, thing, 1)
                self.fails(NoRing, possible_after, n, thing, 0)

    def test_assignment_is_judged_anew(self):
        assignment = [0, 0, 0]
        self.same([(1, None)], all_rounds(3, assignment))
        self.same(True, possible_after(3, assignment, 1))
        assignment[2] = 1
        self.same([(2, 2), (4, None)], all_rounds(3, assignment))
        self.same(False, possible_after(3, assignment, 1))
        assignment[1] = 2
        self.same([], all_rounds(3, assignment))
        assignment[1] = 3
        self.fails(NoAssignment, all_rounds, 3, assignment)


class TestReasonAfter(RingCase):

    def check(self, n, assignment, expected):
        """Whether there is a reason is given; an around certificate is judged by its words."""
        why = reason_after(n, assignment)
        self.gives(why, reason_after, n, assignment)
        self.assertEqual(expected, why is None)
        if sorted(assignment) == list(range(n)):
            self.same(("all",), why)
        elif why is not None:
            self.assertIs(tuple, type(why))
            word, groups = why
            self.same("around", word)
            self.assertIn(len(groups), (3, 4))
            self.same(sorted(set(groups)), groups)
            self.assertTrue(all(type(i) is int and 0 <= i < n for i in groups))
            self.assertTrue(plain_around(n, assignment, groups))
        if why is not None:
            self.gives(True, shows_after, n, assignment, why)

    def test_examples(self):
        self.gives(("all",), reason_after, 3, [1, 2, 0])

    def test_against_all_rounds_put_together(self):
        for n in (2, 3, 4):
            possible_ones = set().union(*results_by_rounds(n, 4 * n)[1:])
            for assignment in all_assignments(n):
                self.check(n, assignment, tuple(assignment) in possible_ones)

    def test_all_rounds(self):
        for n in (5, 6):
            for assignment in all_assignments(n):
                if n == 5 or sum(assignment) % 7 == 0:
                    self.check(n, assignment, all_rounds(n, assignment) != [])

    def test_large_rings(self):
        source = random.Random(5)
        for n in (11, 60):
            for assignment in some_results(n, 2 * n):
                self.check(n, assignment, True)
                for _ in range(10):
                    changed = list(assignment)
                    changed[source.randrange(n)] = source.randrange(n)
                    self.check(n, changed, plain_continuations(n, changed) != [] and len(set(changed)) < n)
            for _ in range(10):
                random_one = [source.randrange(n) for _ in range(n)]
                self.check(n, random_one, plain_continuations(n, random_one) != [])

    def test_four_groups(self):
        # No three of these ends go around twice.
        self.gives(("around", [0, 1, 2, 3]), reason_after, 4, [0, 2, 0, 2])
        self.gives(("around", [0, 1, 2, 3]), reason_after, 4, [3, 1, 3, 1])
        for n in (5, 60):
            self.check(n, [0, 2, 0, 2] + [2] * (n - 4), False)
            self.check(n, [0] * (n - 3) + [1, 0, 1], False)
            self.check(n, [0] * (n - 4) + [1, 1, 0, 1], False)
            self.check(n, [0] * (n - 3) + [1, 1, 0], True)

    def test_three_groups(self):
        self.gives(("around", [0, 1, 2]), reason_after, 4, [0, 2, 1, 0])
        for n in (4, 60):
            self.check(n, [2, 1, 0] + [0] * (n - 3), False)
            self.check(n, [0] * (n - 3) + [2, 1, 0], False)
            self.check(n, [0] * (n - 2) + [2, 1], False)
            self.check(n, [1, 0] + [1] * (n - 2), True)

    def test_all_ends(self):
        for n in (2, 3, 4, 60):
            self.gives(("all",), reason_after, n, list(range(n)))
            self.gives(("all",), reason_after, n, list(reversed(range(n))))
            self.gives(None, reason_after, n, [n - 1] * n)

    def test_wrong(self):
        for thing in NO_ASSIGNMENTS_OF_3 + NO_LISTS:
            self.fails(NoAssignment, reason_after, 3, thing)
        for n in NO_RINGS:
            for thing in (None, [], [0, 0, 0], [0] * 61):
                self.fails(NoRing, reason_after, n, thing)

    def test_certificates_do_not_share_lists(self):
        first = reason_after(4, [0, 2, 1, 0])
        second = reason_after(4, [0, 2, 1, 0])
        first[1].append(3)
        self.same(("around", [0, 1, 2]), second)
        self.same(("around", [0, 1, 2]), reason_after(4, [0, 2, 1, 0]))


class TestShowsAfter(RingCase):

    def test_examples(self):
        self.gives(True, shows_after, 4, [0, 2, 1, 0], ("around", [0, 1, 2]))
        self.gives(False, shows_after, 4, [0, 2, 2, 0], ("around", [0, 1, 2]))

    def test_all_groups_of_small_rings(self):
        for n in (2, 3, 4, 5):
            lists = [list(some) for many in range(n + 1) for some in itertools.combinations(range(n), many)]
            for assignment in all_assignments(n):
                if n == 5 and sum(assignment) % 3:
                    continue
                self.same(len(set(assignment)) == n, shows_after(n, assignment, ("all",)))
                for groups in lists:
                    expected = len(groups) >= 3 and plain_around(n, assignment, groups)
                    self.same(expected, shows_after(n, assignment, ("around", groups)))

    def test_more_than_four_groups(self):
        source = random.Random(8)
        for n in (7, 60):
            backwards = list(reversed(range(n)))
            self.gives(True, shows_after, n, backwards, ("around", list(range(n))))
            self.gives(True, shows_after, n, [0] + backwards[1:-1] + [0], ("around", list(range(n))))
            self.gives(False, shows_after, n, list(range(n)), ("around", list(range(n))))
            self.gives(False, shows_after, n, [0] * n, ("around", list(range(n))))
            for _ in range(30):
                assignment = [source.choice([0, 1, n - 1]) for _ in range(n)]
                groups = sorted(source.sample(range(n), source.choice([3, 4, 5, 6, 7])))
                expected = plain_around(n, assignment, groups)
                self.gives(expected, shows_after, n, assignment, ("around", groups))

    def test_equal_ends_count_nothing(self):
        self.gives(False, shows_after, 4, [1, 1, 1, 1], ("around", [0, 1, 2, 3]))
        self.gives(False, shows_after, 4, [2, 2, 1, 1], ("around", [0, 1, 2, 3]))
        self.gives(True, shows_after, 4, [2, 1, 2, 1], ("around", [0, 1, 2, 3]))

    def test_certificate_that_is_not_the_first_one(self):
        self.gives(True, shows_after, 4, [3, 2, 1, 0], ("all",))
        self.gives(True, shows_after, 4, [3, 2, 1, 0], ("around", [0, 1, 2]))
        self.gives(True, shows_after, 4, [3, 2, 1, 0], ("around", [0, 1, 2, 3]))
        self.gives(False, shows_after, 4, [1, 2, 3, 0], ("around", [0, 1, 2, 3]))
        self.gives(False, shows_after, 4, [0, 2, 1, 0], ("all",))

    def test_true_ones_only(self):
        for assignment in ([0, 2, 1, 0], [3, 2, 1, 0], [2, 2, 0, 0]):
            for thing in NO_CERTIFICATES + NO_CERTIFICATES_AROUND + NO_LISTS:
                # [0, True, 2] is no list of groups, though Python takes it for the same list.
                if repr(thing) not in ("('all',)", "('around', [0, 1, 2])"):
                    self.gives(False, shows_after, 4, assignment, thing)

    def test_wrong(self):
        for thing in NO_ASSIGNMENTS_OF_3 + NO_LISTS:
            self.fails(NoAssignment, shows_after, 3, thing, ("all",))
            self.fails(NoAssignment, shows_after, 3, thing, None)
        for n in NO_RINGS:
            self.fails(NoRing, shows_after, n, [1, 2, 0], ("all",))
            self.fails(NoRing, shows_after, n, None, None)

    def test_thing_is_judged_anew(self):
        groups = [0, 1]
        thing = ("around", groups)
        self.same(False, shows_after(4, [0, 2, 1, 0], thing))
        groups.append(2)
        self.same(True, shows_after(4, [0, 2, 1, 0], thing))
        groups.append(2)
        self.same(False, shows_after(4, [0, 2, 1, 0], thing))


class TestPlan(RingCase):

    def check(self, n, assignment, r):
        """The drops of all rounds, run one after the other."""
        places = list(range(n))
        for s in range(1, r + 1):
            drops = plan(n, assignment, r, s)
            self.assertIs(True, is_drops(n, drops))
            behind = plain_ends(n, drops)
            places = [behind[j] for j in places]
        self.same(assignment, places)

    def test_examples(self):
        error = self.fails(Impossible, plan, 5, [3, 3, 0, 0, 0], 3, 1)
        self.same(("rounds", [(4, None)]), error.reason)

    def test_small_rings(self):
        for n in (2, 3, 4, 5):
            for assignment in all_assignments(n):
                intervals = all_rounds(n, assignment)
                for r in range(1, 13):
                    if inside(intervals, r):
                        self.check(n, assignment, r)
                    elif n < 4 or r == 2:
                        for s in (1, r):
                            error = self.fails(Impossible, plan, n, assignment, r, s)
                            self.same(("rounds", intervals), error.reason)

    def test_by_name_and_new_lists(self):
        for n, assignment, r in ((5, [3, 0, 0, 1, 1], 2), (4, [1, 2, 3, 3], 7), (2, [0, 0], 3), (60, [7] * 60, 9)):
            for s in range(1, r + 1):
                self.gives(plan(n, assignment, r, s), plan, n, assignment, r, s)

    def test_large_rings(self):
        for n in (19, 60):
            for assignment in some_results(n, 4 * n):
                intervals = all_rounds(n, assignment)
                for least, greatest in intervals[:3]:
                    for r in (least, least + 1 if greatest is None else greatest):
                        self.check(n, assignment, r)
                for r in [greatest + 1 for _, greatest in intervals[:-1]][:3]:
                    error = self.fails(Impossible, plan, n, assignment, r, 1)
                    self.same(("rounds", intervals), error.reason)

    def test_one_round(self):
        for n in (2, 3, 4, 5):
            for drops in all_drops(n):
                self.same(drops, plan(n, plain_ends(n, drops), 1, 1))

    def test_all_ends_equal(self):
        for n in (2, 3, 60):
            for r in (1, 2, 3, n, 2 * n + 1):
                self.check(n, [n - 1] * n, r)

    def test_many_digits(self):
        for n in (2, 5, 60):
            for assignment in some_results(n, 13) + [[0] * n]:
                for r in (10 ** 30, BIG):
                    for s in (1, 2, 10 ** 29, r // 2, r - 1, r):
                        self.assertIs(True, is_drops(n, plan(n, assignment, r, s)))
                    # In the last round all ends are drops.
                    self.assertLessEqual(set(assignment), set(plan(n, assignment, r, r)))

    def test_rounds_with_many_digits_go_on_from_each_other(self):
        # From the drops of one round, where the clients are, they go to different drops of the next one.
        for n in (5, 60):
            for assignment in some_results(n, 17):
                many = len(set(assignment))
                for s in (1, 2, 10 ** 50, BIG - 2):
                    here = plan(n, assignment, BIG, s)
                    behind = plain_ends(n, plan(n, assignment, BIG, s + 1))
                    self.assertGreaterEqual(len({behind[j] for j in here}), many)

    def test_impossible(self):
        for n in (2, 3, 60):
            error = self.fails(Impossible, plan, n, list(range(n)), 1, 1)
            self.same(("rounds", []), error.reason)
            error = self.fails(Impossible, plan, n, list(reversed(range(n))), BIG, BIG)
            self.same(("rounds", []), error.reason)
        error = self.fails(Impossible, plan, 4, [0, 2, 1, 0], 2, 1)
        self.same(("rounds", []), error.reason)
        for r in (1, 2, 3, 5, 6, 9):
            error = self.fails(Impossible, plan, 4, [1, 2, 3, 3], r, 1)
            self.same(("rounds", [(4, 4), (7, 8), (10, None)]), error.reason)
            error.reason[1].clear()
            self.same([(4, 4), (7, 8), (10, None)], all_rounds(4, [1, 2, 3, 3]))

    def test_wrong(self):
        for thing in NO_ASSIGNMENTS_OF_3 + NO_LISTS:
            for r, s in ((1, 1), (0, 0), (2, 3)):
                self.fails(NoAssignment, plan, 3, thing, r, s)
        for assignment in ([0, 0, 0], [1, 2, 0], [0, 1, 1]):
            for r in (0, -1, -BIG):
                for s in (0, 1, r):
                    self.fails(NoNumber, plan, 3, assignment, r, s)
            for r in (1, 2, 3, BIG):
                for s in (0, -1, -BIG, r + 1, r + 2):
                    self.fails(NoNumber, plan, 3, assignment, r, s)
        for n in NO_RINGS:
            self.fails(NoRing, plan, n, None, 0, 0)
            self.fails(NoRing, plan, n, [0, 0, 0], 1, 1)

    def test_assignment_is_judged_anew(self):
        assignment = [1, 1, 1]
        self.same([1], plan(3, assignment, 1, 1))
        assignment[1] = 2
        self.same([1, 2], plan(3, assignment, 1, 1))
        assignment[0] = 0
        self.fails(Impossible, plan, 3, assignment, 1, 1)
        assignment[0] = True
        self.fails(NoAssignment, plan, 3, assignment, 1, 1)


class TestTogether(RingCase):

    def test_results_of_rounds_are_possible(self):
        for n in (5, 60):
            rounds = some_rounds(n, 6, n + 9)
            for many in range(1, 7):
                result = after(n, rounds[:many])
                self.assertIs(True, is_assignment(n, result))
                self.assertIs(True, possible_after(n, result, many))
                self.assertIsNone(reason_after(n, result))

    def test_repeated_is_after(self):
        for n in (5, 60):
            for batches in some_rounds(n, 5, n + 2):
                drops = drops_of(n, batches)
                for r in (0, 1, 2, 5, 20):
                    self.same(after(n, [batches] * r), repeated(n, drops, r))
                    if r:
                        self.assertIs(True, possible_after(n, repeated(n, drops, r), r))
                self.same(ends(n, drops), repeated(n, drops, 1))


if __name__ == "__main__":
    unittest.main()
