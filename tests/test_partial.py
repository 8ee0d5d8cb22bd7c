import itertools
import math
import random
import unittest
from fractions import Fraction

from ringrestart.drops import drops_from, reason
from ringrestart.errors import Impossible, NoObservation, NoRing, NoServer
from ringrestart.orders import chance, order_count
from ringrestart.partial import (
    certain, chance_given, conflict, demands, drop_count, fits, fitting_drops, orders_left, shows_conflict)
from support import (
    BIG, NO_LISTS, NO_RINGS, NO_SERVERS_INSIDE, RingCase, all_assignments, orders_by_drops, plain_ends, plain_reason,
    some_drops, walked, with_one_changed)
from test_drops import NO_CERTIFICATES

WITHOUT_MORE = (fits, conflict, demands, fitting_drops, drop_count, orders_left, certain)
WITH_IMPOSSIBLE = (demands, fitting_drops, certain)

NO_OBSERVATIONS_OF_3 = [
    [], [None], [None, None], [None] * 4, [0, 1], [0, 1, 2, 0], [None, None, 3], [3, None, None], [None, -1, None],
    [-1, -1, -1], [True, None, None], [None, False, None], [True, True, True], [None, None, "0"], ["0", "1", "2"],
    ["", None, None], [None, None, ""], [[0], None, None], [[None], [None], [None]], [[None, None, None]],
    [None, None, (0,)], [None, (), None], [None, [], None], [None, None, {}], [None, BIG, None], [None, -BIG, None],
    ["None", None, None], [None] * 2900, [[[[[[0]]]]]],
]


def all_observations(n):
    return [list(some) for some in itertools.product([None] + list(range(n)), repeat=n)]


def plain_conflicts(n, seen):
    """All true certificates of the form passed, in ascending order."""
    groups = [i for i in range(n) if seen[i] is not None]
    return [("passed", i, k) for i in groups for k in groups if walked(n, i, seen[k]) < walked(n, i, seen[i])]


def every_server_seen(n, seen):
    return set(range(n)) <= set(seen)


def plain_conflict(n, seen):
    for certificate in plain_conflicts(n, seen):
        return certificate
    return ("all",) if every_server_seen(n, seen) else None


def some_seen(n, drops, many, source):
    """What is seen of the ends for these drops, if so many groups are seen."""
    groups = source.sample(range(n), many)
    return [end if i in groups else None for i, end in enumerate(plain_ends(n, drops))]


class TestExamples(RingCase):

    def test_conflict(self):
        seen = [2, None, None, 1, None]
        self.gives(False, fits, 5, seen)
        self.gives(("passed", 0, 3), conflict, 5, seen)
        self.gives(("all",), conflict, 3, [1, 2, 0])

    def test_what_is_demanded(self):
        seen = [None, 3, None, None, 0]
        self.gives(([0, 3], [2]), demands, 5, seen)
        self.gives([None, 3, 3, None, 0], certain, 5, seen)
        self.gives(4, drop_count, 5, seen)
        self.gives([0, 1, 3], fitting_drops, 5, seen)

    def test_orders(self):
        self.gives(6, orders_left, 3, [None, None, None])
        self.gives((1, 1), chance_given, 3, [1, None, None], 0, 1)

    def test_impossible(self):
        error = self.fails(Impossible, certain, 5, [2, None, None, 1, None])
        self.same(("passed", 0, 3), error.reason)


class TestSmallRings(RingCase):

    def check(self, n, seen, found, ends):
        """All answers against those of all drops with their orders."""
        fitting = [drops for drops in found if all(seen[i] in (None, ends[drops][i]) for i in range(n))]
        self.gives(bool(fitting), fits, n, seen)
        self.gives(plain_conflict(n, seen), conflict, n, seen)
        self.assertIs(bool(fitting), conflict(n, seen) is None)
        self.gives(len(fitting), drop_count, n, seen)
        self.gives(sum(len(found[drops]) for drops in fitting), orders_left, n, seen)
        if not fitting:
            for function in WITH_IMPOSSIBLE:
                self.same(plain_conflict(n, seen), self.fails(Impossible, function, n, seen).reason)
            error = self.fails(Impossible, chance_given, n, seen, 0, n - 1)
            self.same(plain_conflict(n, seen), error.reason)
            return
        always = [j for j in range(n) if all(j in drops for drops in fitting)]
        never = [j for j in range(n) if all(j not in drops for drops in fitting)]
        self.gives((always, never), demands, n, seen)
        self.gives(min(list(drops) for drops in fitting), fitting_drops, n, seen)
        possible = [{ends[drops][i] for drops in fitting} for i in range(n)]
        self.gives([min(each) if len(each) == 1 else None for each in possible], certain, n, seen)

    def check_chances(self, n, seen, found, ends):
        fitting = [drops for drops in found if all(seen[i] in (None, ends[drops][i]) for i in range(n))]
        total = sum(len(found[drops]) for drops in fitting)
        for i in range(n if fitting else 0):
            for j in range(n):
                part = Fraction(sum(len(found[drops]) for drops in fitting if ends[drops][i] == j), total)
                self.same((part.numerator, part.denominator), chance_given(n, seen, i, j))

    def test_all_observations(self):
        for n in (2, 3, 4):
            found = orders_by_drops(n)
            ends = {drops: plain_ends(n, drops) for drops in found}
            for seen in all_observations(n):
                self.check(n, seen, found, ends)
                self.check_chances(n, seen, found, ends)

    def test_some_observations(self):
        source = random.Random(12)
        for n in (5, 6):
            found = orders_by_drops(n)
            ends = {drops: plain_ends(n, drops) for drops in found}
            for drops in found:
                for many in {0, 1, 2, source.randrange(n + 1), n}:
                    seen = some_seen(n, drops, many, source)
                    self.check(n, seen, found, ends)
                    self.check_chances(n, seen, found, ends)
                    seen[source.randrange(n)] = source.randrange(n)
                    self.check(n, seen, found, ends)

    def test_all_groups_seen(self):
        for n in (2, 3, 4, 5):
            for assignment in all_assignments(n):
                why = plain_reason(n, assignment)
                self.same(why, conflict(n, assignment))
                self.same(why is None, fits(n, assignment))
                self.same(int(why is None), drop_count(n, assignment))
                if why is None:
                    drops = sorted(set(assignment))
                    self.same(drops, fitting_drops(n, assignment))
                    self.same((drops, [j for j in range(n) if j not in drops]), demands(n, assignment))
                    self.same(assignment, certain(n, assignment))
                    self.same(order_count(n, drops), orders_left(n, assignment))
                else:
                    self.same(0, orders_left(n, assignment))


class TestLargeRings(RingCase):

    def observations(self):
        source = random.Random(13)
        found = []
        for n in (2, 3, 17, 59, 60):
            for drops in some_drops(n, n + 13):
                for many in {0, 1, n // 4, n - 1, n}:
                    found.append((n, drops, some_seen(n, drops, many, source)))
        return found

    def test_fitting_drops(self):
        for n, drops, seen in self.observations():
            self.same(True, fits(n, seen))
            self.same(None, conflict(n, seen))
            least = fitting_drops(n, seen)
            self.gives(least, fitting_drops, n, seen)
            self.assertLessEqual(least, drops)
            for some in (least, drops):
                ends = plain_ends(n, some)
                self.assertTrue(all(seen[i] in (None, ends[i]) for i in range(n)))
                always, never = demands(n, seen)
                self.assertTrue(set(always) <= set(some))
                self.assertFalse(set(never) & set(some))
                self.assertTrue(all(end in (None, ends[i]) for i, end in enumerate(certain(n, seen))))

    def test_demands_can_be_met_in_both_ways(self):
        for n, _, seen in self.observations():
            always, never = demands(n, seen)
            self.gives((always, never), demands, n, seen)
            free = [j for j in range(n) if j not in always and j not in never]
            count = drop_count(n, seen)
            self.gives(count, drop_count, n, seen)
            self.assertEqual(2 ** len(free) - (not always) - (not never), count)
            for j in free[:3]:
                for drops in (sorted(always + [j]), sorted(always + [k for k in free if k != j])):
                    ends = plain_ends(n, drops)
                    self.assertTrue(all(seen[i] in (None, ends[i]) for i in range(n)))

    def test_certain(self):
        for n, _, seen in self.observations():
            ends = certain(n, seen)
            self.gives(ends, certain, n, seen)
            self.assertTrue(all(seen[i] in (None, ends[i]) for i in range(n)))
            for function in (demands, fitting_drops, drop_count, orders_left, certain):
                self.same(function(n, seen), function(n, ends))
            for i in range(n):
                j = plain_ends(n, fitting_drops(n, seen))[i]
                self.same(ends[i] is not None, chance_given(n, seen, i, j) == (1, 1))

    def test_shares_add_up(self):
        for n, _, seen in self.observations():
            for i in {0, n // 2, n - 1}:
                chances = [chance_given(n, seen, i, j) for j in range(n)]
                self.assertEqual(1, sum(Fraction(*each) for each in chances))
                for top, bottom in chances:
                    self.assertEqual(1, math.gcd(top, bottom))
                    self.assertLess(0, bottom)
                    self.assertTrue(top > 0 or bottom == 1)

    def test_orders_by_the_end_of_one_group(self):
        for n, _, seen in self.observations():
            total = orders_left(n, seen)
            self.gives(total, orders_left, n, seen)
            for i in {0, n - 1}:
                if seen[i] is None:
                    parts = [orders_left(n, seen[:i] + [j] + seen[i + 1:]) for j in range(n)]
                    self.assertEqual(total, sum(parts))
                    for j in (i, (i + 1) % n, (i + 3) % n):
                        part = Fraction(parts[j], total)
                        self.gives((part.numerator, part.denominator), chance_given, n, seen, i, j)

    def test_nothing_seen(self):
        for n in (2, 3, 7, 60):
            seen = [None] * n
            self.gives(True, fits, n, seen)
            self.gives(None, conflict, n, seen)
            self.gives(([], []), demands, n, seen)
            self.gives([0], fitting_drops, n, seen)
            self.gives(2 ** n - 2, drop_count, n, seen)
            self.gives(math.factorial(n), orders_left, n, seen)
            self.gives(seen, certain, n, seen)
            for i in {0, 1, n - 1}:
                for j in range(n):
                    self.same(chance(n, i, j), chance_given(n, seen, i, j))

    def test_all_seen(self):
        for n in (2, 3, 17, 60):
            for drops in some_drops(n, 3 * n):
                seen = plain_ends(n, drops)
                self.gives(drops, fitting_drops, n, seen)
                self.gives(1, drop_count, n, seen)
                self.gives(order_count(n, drops), orders_left, n, seen)
                self.gives(seen, certain, n, seen)
                self.gives((1, 1), chance_given, n, seen, 0, seen[0])
                self.gives((0, 1), chance_given, n, seen, 0, (seen[0] + 1) % n)
                self.same(drops, drops_from(n, seen))
                self.same(reason(n, seen), conflict(n, seen))

    def test_conflicts(self):
        source = random.Random(14)
        for n in (17, 60):
            for many in (2, 5, n):
                groups = source.sample(range(n), many)
                seen = [source.randrange(n) if i in groups else None for i in range(n)]
                why = plain_conflict(n, seen)
                self.gives(why, conflict, n, seen)
                self.gives(why is None, fits, n, seen)
                self.gives(why is not None, shows_conflict, n, seen, why)


class TestEdges(RingCase):

    def test_own_server(self):
        for n in (2, 3, 60):
            for i in (0, n - 1):
                seen = [None] * n
                seen[i] = i
                self.gives(([i], [j for j in range(n) if j != i]), demands, n, seen)
                self.gives([i], fitting_drops, n, seen)
                self.gives(1, drop_count, n, seen)
                self.gives(1, orders_left, n, seen)
                self.gives([i] * n, certain, n, seen)
                self.gives((1, 1), chance_given, n, seen, (i + 1) % n, i)

    def test_all_but_one_are_drops(self):
        for n in (3, 5, 60):
            seen = list(range(1, n)) + [None]
            self.gives((list(range(1, n)), [0]), demands, n, seen)
            self.gives(list(range(1, n)), fitting_drops, n, seen)
            self.gives(1, drop_count, n, seen)
            self.gives(1, orders_left, n, seen)
            self.gives(list(range(1, n)) + [1], certain, n, seen)
            self.gives((1, 1), chance_given, n, seen, n - 1, 1)
            self.gives((0, 1), chance_given, n, seen, n - 1, 0)
        self.gives(([1], [0]), demands, 2, [1, None])
        self.gives([1, 1], certain, 2, [1, None])
        self.gives(([0], [1]), demands, 2, [0, None])
        self.gives([0, 0], certain, 2, [0, None])

    def test_all_but_two_are_drops(self):
        # One of the two must be left out; the least list leaves out the greater one.
        self.gives([0, 1, 2, 4], fitting_drops, 5, [None, 2, None, 4, 0])
        self.gives(([0, 2, 4], []), demands, 5, [None, 2, None, 4, 0])
        self.gives(3, drop_count, 5, [None, 2, None, 4, 0])
        seen = [(i + 1) % 60 for i in range(60)]
        seen[9] = seen[29] = None
        self.gives([j for j in range(60) if j != 30], fitting_drops, 60, seen)
        self.gives(3, drop_count, 60, seen)

    def test_least_drops_end_with_the_last_one_seen(self):
        self.gives([0, 1, 2, 3], fitting_drops, 6, [None, None, 3, None, None, None])
        self.gives([0, 3], fitting_drops, 6, [3, None, None, None, None, None])
        self.gives([0, 1, 2, 4], fitting_drops, 6, [None, None, 4, None, None, None])

    def test_every_server_is_an_end(self):
        for n in (2, 3, 60):
            seen = [(i + 1) % n for i in range(n)]
            self.gives(False, fits, n, seen)
            self.gives(("all",), conflict, n, seen)
            self.gives(0, drop_count, n, seen)
            self.gives(0, orders_left, n, seen)
            self.gives(True, shows_conflict, n, seen, ("all",))
            for function in WITH_IMPOSSIBLE:
                self.same(("all",), self.fails(Impossible, function, n, seen).reason)
            self.same(("all",), self.fails(Impossible, chance_given, n, seen, 0, 1).reason)
            seen[0] = None
            self.gives(True, fits, n, seen)
            self.gives(1, drop_count, n, seen)

    def test_passed_comes_first(self):
        own = [0, 1, 2]
        self.gives(("passed", 0, 1), conflict, 3, own)
        self.gives(True, shows_conflict, 3, own, ("passed", 0, 1))
        self.gives(True, shows_conflict, 3, own, ("passed", 2, 1))
        self.gives(True, shows_conflict, 3, own, ("all",))
        self.gives(False, shows_conflict, 3, [0, 1, None], ("all",))

    def test_only_seen_groups_pass(self):
        seen = [2, None, None, 1, None]
        self.gives(True, shows_conflict, 5, seen, ("passed", 0, 3))
        for i, k in itertools.product(range(5), repeat=2):
            self.gives((i, k) == (0, 3), shows_conflict, 5, seen, ("passed", i, k))
        self.gives(("passed", 2, 4), conflict, 5, [None, None, 1, None, 0])
        self.gives(("passed", 4, 1), conflict, 5, [None, 3, None, None, 4])
        self.gives(None, conflict, 5, [None, 3, None, None, 3])


class TestShows(RingCase):

    def test_all_certificates(self):
        for n in (2, 3):
            numbers = range(-n, 2 * n)
            for seen in all_observations(n):
                good = plain_conflicts(n, seen)
                self.assertIs(every_server_seen(n, seen), shows_conflict(n, seen, ("all",)))
                for i, k in itertools.product(numbers, repeat=2):
                    self.assertIs(("passed", i, k) in good, shows_conflict(n, seen, ("passed", i, k)))

    def test_some_certificates(self):
        source = random.Random(15)
        for seen in source.sample(all_observations(4), 120):
            good = plain_conflicts(4, seen)
            self.gives(every_server_seen(4, seen), shows_conflict, 4, seen, ("all",))
            for i, k in itertools.product(range(4), repeat=2):
                self.gives(("passed", i, k) in good, shows_conflict, 4, seen, ("passed", i, k))
            if conflict(4, seen) is not None:
                self.gives(True, shows_conflict, 4, seen, conflict(4, seen))
                self.gives(False, shows_conflict, 4, seen, list(conflict(4, seen)))

    def test_no_certificates(self):
        for seen in ([2, None, 3, 1, 1], [None] * 5, [1, 2, 3, 4, 0], [None, 3, None, None, 0], [2, None, None, 1, None]):
            for thing in NO_CERTIFICATES:
                if thing != ("passed", 0, 3):
                    self.gives(False, shows_conflict, 5, seen, thing)

    def test_booleans_are_no_servers(self):
        for good in (("passed", 0, 1), ("passed", 1, 0)):
            self.gives(True, shows_conflict, 3, [0, 1, None], good)
        for wrong in ((False, 1), (0, True), (False, True), (True, 0), (1, False), (True, False)):
            self.gives(False, shows_conflict, 3, [0, 1, None], ("passed", *wrong))

    def test_large_rings(self):
        source = random.Random(16)
        seen = [source.choice([None, source.randrange(60)]) for _ in range(60)]
        good = plain_conflicts(60, seen)
        for i, k in itertools.product((0, 1, 30, 59), range(-1, 61)):
            self.assertIs(("passed", i, k) in good, shows_conflict(60, seen, ("passed", i, k)))
        self.gives(False, shows_conflict, 60, seen, ("all",))


class TestWrong(RingCase):

    def test_no_observation(self):
        for thing in NO_OBSERVATIONS_OF_3 + NO_LISTS:
            for function in WITHOUT_MORE:
                self.fails(NoObservation, function, 3, thing)
            self.fails(NoObservation, shows_conflict, 3, thing, ("all",))
            for i, j in ((0, 0), (-1, 0), (0, 3)):
                self.fails(NoObservation, chance_given, 3, thing, i, j)
        wrong = [3] + [each for each in NO_SERVERS_INSIDE if each is not None]
        for changed in with_one_changed([1, None, None], wrong):
            for function in WITHOUT_MORE:
                self.fails(NoObservation, function, 3, changed)
        for n in (2, 4, 60):
            for function in WITHOUT_MORE:
                self.fails(NoObservation, function, n, [None] * 3)
                self.fails(NoObservation, function, n, [n] * n)

    def test_no_server(self):
        for n in (2, 5, 60):
            for seen in ([None] * n, [0] * n, [(i + 1) % n for i in range(n)]):
                for wrong in (-1, -n, n, n + 1, BIG, -BIG):
                    self.fails(NoServer, chance_given, n, seen, wrong, 0)
                    self.fails(NoServer, chance_given, n, seen, 0, wrong)
                    self.fails(NoServer, chance_given, n, seen, wrong, wrong)

    def test_no_ring(self):
        for n in NO_RINGS:
            for thing in (None, [], [None], [0, 0], [None] * 61):
                for function in WITHOUT_MORE:
                    self.fails(NoRing, function, n, thing)
                self.fails(NoRing, shows_conflict, n, thing, ("all",))
                for i, j in ((0, 0), (-1, 0), (0, 100)):
                    self.fails(NoRing, chance_given, n, thing, i, j)


class TestJudgedAnew(RingCase):

    def test_same_observation(self):
        seen = [None, 3, None, None, 0]
        self.same(4, drop_count(5, seen))
        seen[4] = 1
        self.same(([1, 3], [0, 2]), demands(5, seen))
        self.same([1, 3, 3, None, 1], certain(5, seen))
        seen[0] = 2
        self.same(("passed", 0, 4), conflict(5, seen))
        self.same(0, orders_left(5, seen))
        self.same(("passed", 0, 4), self.fails(Impossible, fitting_drops, 5, seen).reason)
        seen[0] = 5
        for function in WITHOUT_MORE:
            self.fails(NoObservation, function, 5, seen)
        seen[0] = 1
        self.same([1, 3], fitting_drops(5, seen))

    def test_results_may_be_changed(self):
        seen = [None, 3, None, None, 0]
        always, never = demands(5, seen)
        always.append(1)
        never.clear()
        self.same(([0, 3], [2]), demands(5, seen))
        ends = certain(5, seen)
        ends[0] = 4
        self.same([None, 3, 3, None, 0], certain(5, seen))
        self.same([None, 3, None, None, 0], seen)


if __name__ == "__main__":
    unittest.main()
