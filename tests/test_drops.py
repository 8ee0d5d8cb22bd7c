import itertools
import random
import unittest

from ringrestart.drops import drops_from, drops_of, ends, possible, reason, shows
from ringrestart.errors import Impossible, NoAssignment, NoDrops, NoRing, NoRound
from ringrestart.running import run
from support import (
    BIG, NO_LISTS, NO_RINGS, RingCase, all_assignments, all_drops, all_rounds, one_by_one, plain_drops, plain_ends,
    plain_passed, plain_places, plain_reason, plain_walk, some_rounds)
from test_rings import MANY_BATCHES_OF_60, NO_ASSIGNMENTS_OF_3, NO_DROPS_OF_3, NO_ROUNDS_OF_3

E = [[1], [0, 3], [4], [2]]

NO_CERTIFICATES = [
    None, True, False, 0, 1, BIG, "", "all", "passed", "('all',)", (), [], {}, [[]], ((),), ["all"], ["passed", 0, 3],
    {"all": None}, {"passed": [0, 3]}, ("All",), ("all ",), ("",), (None,), (0,), (True,), ("passed",), (["all"],),
    (("all",),), ("all", 0), ("all", None), ("all", "all"), ("all", 0, 3), ("passed", 0), ("passed", 0, 3, 0),
    ("passed", 0, 3, None), ("passed", (0, 3)), ("passed", [0, 3]), ("Passed", 0, 3), ("passed ", 0, 3), (0, 3),
    (0, "passed", 3), (0, 3, "passed"), (None, 0, 3), (["passed"], 0, 3), ("passed", None, 3), ("passed", 0, None),
    ("passed", "0", "3"), ("passed", "0", 3), ("passed", 0, "3"), ("passed", [0], 3), ("passed", 0, [3]),
    ("passed", (0,), 3), ("passed", 0, (3,)), ("passed", {}, 3), ("passed", 0, {}), ("passed", False, 3),
    ("passed", -5, 3), ("passed", 0, -2), ("passed", 5, 3), ("passed", 0, 8), ("passed", 0, BIG), ("passed", -BIG, 3),
    ("rounds", 0, 3), ("around", [0, 1, 2]), [("all",)], (("passed", 0, 3),), ("passed", 0, 3, "passed", 0, 4),
    [[[[[0]]]]], ["passed"] * 2900,
]


def impossible_of_60():
    """A large assignment in which only one group goes too far."""
    assignment = [(i // 10 * 10 + 10) % 60 for i in range(60)]
    assignment[47] = 0
    return assignment


class TestDropsOf(RingCase):

    def test_examples(self):
        self.gives([0, 1, 3], drops_of, 5, E)

    def test_small_rings(self):
        for n in (2, 3, 4):
            for batches in all_rounds(n):
                self.gives(plain_drops(n, batches), drops_of, n, batches)
        for n in (5, 6):
            for batches in all_rounds(n):
                self.same(plain_drops(n, batches), drops_of(n, batches))

    def test_all_drops_occur(self):
        for n in range(2, 6):
            found = {tuple(drops_of(n, batches)) for batches in all_rounds(n)}
            self.assertEqual({tuple(some) for some in all_drops(n)}, found)

    def test_large_rings(self):
        for n in (17, 60):
            for batches in some_rounds(n, 10, n + 1):
                self.gives(plain_drops(n, batches), drops_of, n, batches)

    def test_one_and_all_but_one(self):
        for n in (2, 3, 60):
            self.gives([0], drops_of, n, [[j] for j in range(n)])
            self.gives(list(range(1, n)), drops_of, n, [[j] for j in reversed(range(n))])
            self.gives([0], drops_of, n, [[j for j in range(n) if j < n - 1], [n - 1]])
            self.gives([1], drops_of, n, [list(range(1, n)), [0]])
        self.gives([0], drops_of, 2, [[0], [1]])
        self.gives([1], drops_of, 2, [[1], [0]])

    def test_wrong(self):
        for thing in NO_ROUNDS_OF_3 + NO_LISTS:
            self.fails(NoRound, drops_of, 3, thing)
        for n in (2, 4, 6, 60):
            self.fails(NoRound, drops_of, n, E)
        for thing in MANY_BATCHES_OF_60:
            self.fails(NoRound, drops_of, 60, thing)
        for n in NO_RINGS:
            for thing in (None, [], E, [[0], [1]]):
                self.fails(NoRing, drops_of, n, thing)

    def test_same_round_is_judged_anew(self):
        batches = [[0], [1], [2]]
        self.same([0], drops_of(3, batches))
        batches.reverse()
        self.same([1, 2], drops_of(3, batches))
        batches[0][0] = 1
        self.fails(NoRound, drops_of, 3, batches)
        batches[1][0] = 2
        self.same([1], drops_of(3, batches))


class TestEnds(RingCase):

    def test_examples(self):
        self.gives([1, 3, 3, 0, 0], ends, 5, [0, 1, 3])

    def test_all_drops(self):
        for n in range(2, 8):
            for drops in all_drops(n):
                self.gives(plain_ends(n, drops), ends, n, drops)

    def test_large_rings(self):
        source = random.Random(60)
        for n in (17, 59, 60):
            for many in (1, 2, 5, n // 2, n - 2, n - 1):
                drops = sorted(source.sample(range(n), many))
                self.gives(plain_ends(n, drops), ends, n, drops)

    def test_one_and_all_but_one(self):
        for n in (2, 5, 60):
            for j in range(n):
                self.gives([j] * n, ends, n, [j])
                others = [k for k in range(n) if k != j]
                expected = [(i + 1) % n for i in range(n)]
                expected[j - 1] = (j + 1) % n
                self.gives(expected, ends, n, others)

    def test_ends_of_rounds(self):
        for n in range(2, 6):
            for batches in all_rounds(n):
                self.same(run(n, batches), ends(n, drops_of(n, batches)))
        for batches in some_rounds(60, 10, 3):
            self.gives(plain_places(60, batches, len(batches)), ends, 60, plain_drops(60, batches))

    def test_wrong(self):
        for thing in NO_DROPS_OF_3 + NO_LISTS:
            self.fails(NoDrops, ends, 3, thing)
        for n in (2, 59, 60):
            self.fails(NoDrops, ends, n, list(range(n)))
            self.fails(NoDrops, ends, n, [0, n])
            self.fails(NoDrops, ends, n, [])
        for n in NO_RINGS:
            for thing in (None, [], [0], [0, 1], list(range(61)), [1, 0]):
                self.fails(NoRing, ends, n, thing)

    def test_same_drops_are_judged_anew(self):
        drops = [0]
        self.same([0, 0, 0], ends(3, drops))
        drops.append(2)
        self.same([2, 2, 0], ends(3, drops))
        drops[1] = 3
        self.fails(NoDrops, ends, 3, drops)
        drops.pop()
        self.same([0, 0, 0], ends(3, drops))


class TestPossible(RingCase):

    def test_examples(self):
        self.gives(True, possible, 5, [1, 2, 0, 0, 0])
        self.gives(None, reason, 5, [1, 2, 0, 0, 0])
        self.gives(("passed", 0, 3), reason, 5, [2, 2, 3, 1, 1])
        self.gives(("all",), reason, 3, [1, 2, 0])
        self.gives([0, 1, 3], drops_from, 5, [1, 3, 3, 0, 0])
        self.same(("all",), self.fails(Impossible, drops_from, 3, [1, 2, 0]).reason)

    def test_exactly_the_results_of_rounds(self):
        for n in range(2, 6):
            results = {}
            for batches in all_rounds(n):
                places = tuple(plain_places(n, batches, len(batches)))
                results.setdefault(places, set()).add(tuple(plain_drops(n, batches)))
            for assignment in all_assignments(n):
                drops = results.get(tuple(assignment), set())
                self.assertIs(len(drops) == 1, possible(n, assignment))
                if drops:
                    self.same([list(each) for each in drops], [drops_from(n, assignment)])
                    self.assertIsNone(reason(n, assignment))

    def test_small_rings(self):
        for n in (2, 3, 4):
            for assignment in all_assignments(n):
                why = plain_reason(n, assignment)
                self.gives(why, reason, n, assignment)
                self.gives(why is None, possible, n, assignment)
                if why is None:
                    self.gives(sorted(set(assignment)), drops_from, n, assignment)
                else:
                    self.same(why, self.fails(Impossible, drops_from, n, assignment).reason)

    def test_all_reasons_of_five(self):
        for assignment in all_assignments(5):
            self.same(plain_reason(5, assignment), reason(5, assignment))

    def test_drops_lead_back(self):
        source = random.Random(8)
        for n in (2, 7, 60):
            for many in {1, n // 2, n - 1}:
                drops = sorted(source.sample(range(n), many))
                assignment = plain_ends(n, drops)
                self.gives(drops, drops_from, n, assignment)
                self.gives(True, possible, n, assignment)
                self.gives(None, reason, n, assignment)
        for drops in ([3, 20, 21, 50], [8, 16, 59], [0, 7, 9, 32, 40], [31, 32, 33, 34, 35]):
            self.gives(drops, drops_from, 60, plain_ends(60, drops))

    def test_all_servers_are_ends(self):
        for n in (2, 3, 5, 60):
            next_ones = [(i + 1) % n for i in range(n)]
            self.gives(False, possible, n, next_ones)
            self.gives(("all",), reason, n, next_ones)
            self.same(("all",), self.fails(Impossible, drops_from, n, next_ones).reason)
        for n in (3, 5, 60):
            own = list(range(n))
            self.gives(False, possible, n, own)
            self.gives(("passed", 0, 1), reason, n, own)
            self.same(("passed", 0, 1), self.fails(Impossible, drops_from, n, own).reason)
        self.gives(("passed", 0, 1), reason, 2, [0, 1])
        self.gives(("passed", 0, 2), reason, 3, [2, 0, 1])
        self.gives(("passed", 1, 2), reason, 3, [1, 0, 2])
        self.gives(("passed", 0, 1), reason, 3, [2, 1, 0])

    def test_large_rings(self):
        self.gives(True, possible, 60, [7] * 60)
        self.gives([7], drops_from, 60, [7] * 60)
        far = impossible_of_60()
        self.gives(False, possible, 60, far)
        self.gives(("passed", 47, 40), reason, 60, far)
        self.same(("passed", 47, 40), self.fails(Impossible, drops_from, 60, far).reason)
        source = random.Random(9)
        for _ in range(5):
            assignment = [source.randrange(60) for _ in range(60)]
            self.gives(plain_reason(60, assignment), reason, 60, assignment)
        for at in (0, 30, 59):
            assignment = plain_ends(60, [3, 20, 21, 50])
            assignment[at] = (at + 40) % 60
            why = plain_reason(60, assignment)
            self.gives(why, reason, 60, assignment)
            self.gives(why is None, possible, 60, assignment)

    def test_results_of_rounds(self):
        for n in (2, 3, 31, 60):
            for batches in one_by_one(n) + some_rounds(n, 6, n + 2):
                assignment = [plain_walk(n, batches, i)[-1] for i in range(n)]
                self.gives(None, reason, n, assignment)
                self.gives(True, possible, n, assignment)
                self.gives(plain_drops(n, batches), drops_from, n, assignment)

    def test_results_with_one_group_at_another_end(self):
        source = random.Random(6)
        for n in (5, 31, 60):
            for batches in one_by_one(n) + some_rounds(n, 4, n + 3):
                assignment = plain_ends(n, plain_drops(n, batches))
                for at in {0, n - 1, source.randrange(n), source.randrange(n)}:
                    changed = assignment[:at] + [source.randrange(n)] + assignment[at + 1:]
                    why = plain_reason(n, changed)
                    self.gives(why, reason, n, changed)
                    self.gives(why is None, possible, n, changed)
                    if why is not None:
                        self.same(why, self.fails(Impossible, drops_from, n, changed).reason)

    def test_wrong(self):
        for function in (possible, reason, drops_from):
            for thing in NO_ASSIGNMENTS_OF_3 + NO_LISTS:
                self.fails(NoAssignment, function, 3, thing)
            for n in (2, 4, 60):
                self.fails(NoAssignment, function, n, [0, 1, 0])
                self.fails(NoAssignment, function, n, [n] * n)
            for n in NO_RINGS:
                for thing in (None, [], [0], [0, 0], [0] * 61, list(range(61))):
                    self.fails(NoRing, function, n, thing)

    def test_same_assignment_is_judged_anew(self):
        assignment = [0, 0, 0]
        self.same(True, possible(3, assignment))
        self.same([0], drops_from(3, assignment))
        assignment[0] = 1
        self.same(True, possible(3, assignment))
        self.same([0, 1], drops_from(3, assignment))
        assignment[1] = 2
        self.same(False, possible(3, assignment))
        self.same(("all",), reason(3, assignment))
        self.same(("all",), self.fails(Impossible, drops_from, 3, assignment).reason)
        assignment[1] = 3
        for function in (possible, reason, drops_from):
            self.fails(NoAssignment, function, 3, assignment)


class TestShows(RingCase):

    def test_examples(self):
        self.gives(True, shows, 5, [2, 2, 3, 1, 1], ("passed", 0, 4))
        self.gives(False, shows, 5, [2, 2, 3, 1, 1], ("passed", 1, 0))

    def test_all_certificates(self):
        for n in (2, 3, 4):
            numbers = range(-n, 2 * n)
            for assignment in all_assignments(n):
                good = plain_passed(n, assignment)
                self.assertIs(sorted(assignment) == list(range(n)), shows(n, assignment, ("all",)))
                for i, k in itertools.product(numbers, repeat=2):
                    self.assertIs(("passed", i, k) in good, shows(n, assignment, ("passed", i, k)))

    def test_not_only_the_first_one(self):
        assignment = [0, 1, 2]
        self.gives(("passed", 0, 1), reason, 3, assignment)
        self.gives(True, shows, 3, assignment, ("passed", 0, 1))
        self.gives(True, shows, 3, assignment, ("passed", 2, 1))
        self.gives(True, shows, 3, assignment, ("all",))
        self.gives(False, shows, 3, assignment, ("passed", 2, 2))
        self.gives(True, shows, 3, [1, 2, 0], ("all",))

    def test_reasons_are_shown(self):
        for assignment in all_assignments(4):
            why = reason(4, assignment)
            if why is not None:
                self.gives(True, shows, 4, assignment, why)
            self.gives(False, shows, 4, assignment, list(why or ()))

    def test_no_certificates(self):
        for assignment in ([2, 2, 3, 1, 1], [1, 3, 3, 0, 0], [1, 2, 3, 4, 0], [0, 1, 2, 3, 4]):
            for thing in NO_CERTIFICATES:
                self.gives(False, shows, 5, assignment, thing)

    def test_booleans_are_no_servers(self):
        assignment = [0, 1, 2]
        for good in (("passed", 0, 1), ("passed", 1, 0), ("passed", 1, 2)):
            self.gives(True, shows, 3, assignment, good)
        for wrong in ((False, 1), (0, True), (False, True), (True, 0), (1, False), (True, False), (True, 2)):
            self.gives(False, shows, 3, assignment, ("passed", *wrong))

    def test_large_rings(self):
        far = impossible_of_60()
        good = plain_passed(60, far)
        for i, k in itertools.product((0, 30, 46, 47, 48, 59), range(60)):
            self.assertIs(("passed", i, k) in good, shows(60, far, ("passed", i, k)))
        self.gives(True, shows, 60, far, ("passed", 47, 49))
        self.gives(False, shows, 60, far, ("passed", 47, 39))
        self.gives(False, shows, 60, far, ("passed", 46, 49))
        self.gives(False, shows, 60, far, ("all",))
        self.gives(True, shows, 60, list(range(60)), ("all",))
        self.gives(True, shows, 60, list(range(60)), ("passed", 59, 58))
        self.gives(False, shows, 60, list(range(60)), ("passed", 59, 60))
        self.gives(False, shows, 60, list(range(60)), ("passed", -1, 58))

    def test_wrong(self):
        for thing in (None, ("all",), ("passed", 0, 1), "nonsense", ("passed", True, 1)):
            for wrong in NO_ASSIGNMENTS_OF_3 + NO_LISTS:
                self.fails(NoAssignment, shows, 3, wrong, thing)
            for n in NO_RINGS:
                self.fails(NoRing, shows, n, [0, 0], thing)
                self.fails(NoRing, shows, n, None, thing)
            self.fails(NoAssignment, shows, 4, [0, 1, 2], thing)

    def test_same_assignment_is_judged_anew(self):
        assignment = [1, 2, 0]
        self.same(True, shows(3, assignment, ("all",)))
        assignment[2] = 2
        self.same(False, shows(3, assignment, ("all",)))
        self.same(True, shows(3, assignment, ("passed", 2, 0)))
        assignment[2] = -1
        self.fails(NoAssignment, shows, 3, assignment, ("all",))


if __name__ == "__main__":
    unittest.main()
