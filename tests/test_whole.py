"""What the points of the document state of each other, over the whole program."""

import copy
import fractions
import random
import unittest

from ringrestart import batches, drops, errors, loads, orders, partial, rings, rounds, running, texts
from ringrestart.live import Ring
from ringrestart.session import session
from support import BIG, RingCase, all_drops, all_rounds, lists_in, one_by_one, some_drops, some_rounds, spoil


def turned(n, turn, values):
    """A list of one entry for each server or group, in which all servers stand turn places further behind."""
    return [values[(i - turn) % n] for i in range(n)]


def turned_servers(n, turn, servers):
    return [(j + turn) % n for j in servers]


def turned_round(n, turn, some):
    return [sorted(turned_servers(n, turn, batch)) for batch in some]


def nested(depth, inside):
    for _ in range(depth):
        inside = [inside, {"a": inside}, (inside,)] if depth < 4 else [inside]
    return inside


ANY_OBJECTS = [
    None, True, False, 0, 1, -1, BIG, -BIG, "", "0", "0 / 1", "a\nb", "x" * 4000, [], (), {}, [[]], [()], ((),), [{}],
    {"": None}, {"0": [0], "1": [1]}, [None] * 2999, [[0]] * 1499, list(range(2999)), (0,) * 2999,
    {str(k): k for k in range(1400)}, nested(3, 0), nested(5, 1), nested(5, [0, 1]), nested(5, None), [[[[[[]]]]]],
    [0, "1", None, [2, (3, {"4": 5})]], [True, False], [[True], [False]], [[0], [True]], [[0, 1]], [0, 0], [1, 0],
    [[1], [0, 0]], [[0], 1], [0, [1]], ("passed", 0, 1, 2), ("around", [0, 1]), ("rounds", []), ["all"], [-1, 0],
]


class TestRunning(RingCase):

    def test_the_same_from_all_sides(self):
        """A round in the live ring, as a round, by its drops and from its text."""
        for n in (2, 3, 5, 60):
            some = [way for way in all_rounds(n)] if n < 4 else some_rounds(n, 8, n) + one_by_one(n)
            for batches_of_round in some:
                weights = [(3 * i) % 10 for i in range(n)]
                ring = Ring(n, weights)
                for batch in batches_of_round:
                    ring.restart(batch)
                result = ring.places()
                text = texts.write_round(batches_of_round)
                found = drops.drops_of(n, texts.read_round(text))
                self.same(result, running.run(n, batches_of_round))
                self.same(result, drops.ends(n, found))
                self.same(result, rounds.after(n, [batches_of_round]))
                self.same(result, rounds.repeated(n, found, 1))
                self.same(result, partial.certain(n, result))
                self.same(found, drops.drops_from(n, result))
                self.same(found, rounds.plan(n, result, 1, 1))
                self.same(ring.loads(), loads.loads_after(n, batches_of_round, weights, len(batches_of_round)))
                self.assertIs(True, rounds.possible_after(n, result, 1))
                self.assertIsNone(rounds.reason_after(n, result))
                answers = session("ring " + texts.write_servers(weights) + "\ndrops " + text).split("\n")
                self.same(["ok", texts.write_servers(found)], answers)

    def test_ends_can_be_reached(self):
        """What a ring says in the middle of a round holds for what happens then."""
        source = random.Random(3)
        for n in (5, 60):
            for some in some_rounds(n, 5, n + 5):
                ring = Ring(n, [1] * n)
                groups = source.sample(range(n), 5)
                said = []
                for batch in some:
                    said.append([ring.can_end(i) for i in groups])
                    ring.restart(batch)
                for ends in said:
                    for i, servers in zip(groups, ends):
                        self.assertIn(ring.places()[i], servers)
                for earlier, later in zip(said, said[1:]):
                    for before, behind in zip(earlier, later):
                        self.assertLessEqual(set(behind), set(before))

    def test_chances_are_means_of_later_chances(self):
        for n in (3, 6):
            for before in ([], [[0]], [[n - 1], [1]]):
                ring = Ring(n, [1] * n)
                for batch in before:
                    ring.restart(batch)
                left = ring.left()
                for i in range(n):
                    for j in range(n):
                        total = fractions.Fraction(0)
                        for first in left:
                            ring.restart([first])
                            # Behind the last restart the question would be about the next round.
                            at_end = len(left) == 1
                            total += int(ring.places()[i] == j) if at_end else fractions.Fraction(*ring.chance_of(i, j))
                            ring.undo()
                        self.assertEqual(total / len(left), fractions.Fraction(*ring.chance_of(i, j)))

    def test_chances_of_a_new_ring(self):
        for n in (3, 5, 60):
            ring = Ring(n, [1] * n)
            for i, j in ((0, 0), (0, 1), (1, 0), (n - 1, 2), (2, n - 1)):
                expected = orders.chance(n, i, j)
                self.same(expected, ring.chance_of(i, j))
                self.same(expected, partial.chance_given(n, [None] * n, i, j))

    def test_loads_do_not_go_down_again(self):
        """R4, in rounds and in the live ring."""
        for n in (2, 3, 4, 60):
            some = all_rounds(n) if n < 5 else some_rounds(n, 5, n) + one_by_one(n)
            for batches_of_round in some:
                for weights in ([1] * n, [10 ** 30 - i for i in range(n)], [(5 * i) % 7 for i in range(n)]):
                    at = [max(loads.loads_after(n, batches_of_round, weights, k))
                          for k in range(len(batches_of_round) + 1)]
                    self.assertEqual(max(at), at[-1])
                    ring = Ring(n, weights)
                    for k, batch in enumerate(batches_of_round):
                        ring.restart(batch)
                        self.same(max(at[:k + 2]), ring.peak())


class TestPlans(RingCase):

    def results(self, n):
        for first in some_drops(n, n):
            for second in some_drops(n, n + 1)[3:6]:
                ends = drops.ends(n, second)
                yield [ends[j] for j in drops.ends(n, first)]

    def test_plans_in_the_live_ring(self):
        for n in (5, 17):
            for result in self.results(n):
                self.assertIs(True, rounds.possible_after(n, result, 2))
                for least, greatest in rounds.all_rounds(n, result):
                    r = least if greatest is None else greatest
                    ring = Ring(n, [1] * n)
                    some = []
                    for s in range(1, r + 1):
                        some.append(batches.round_in_batches(n, rounds.plan(n, result, r, s)))
                        for batch in some[-1]:
                            ring.restart(batch)
                    self.same(result, ring.places())
                    self.same(r, ring.round_number())
                    if r <= 20:
                        self.same(result, rounds.after(n, some))

    def test_plans_of_all_drops(self):
        for n in (3, 4, 5):
            for some in all_drops(n):
                for r in (1, 2, 3, 7):
                    result = rounds.repeated(n, some, r)
                    places = list(range(n))
                    for s in range(1, r + 1):
                        ends = drops.ends(n, rounds.plan(n, result, r, s))
                        places = [ends[j] for j in places]
                    self.same(result, places)

    def test_intervals_may_be_passed_back(self):
        for n in (5, 60):
            for result in self.results(n):
                intervals = rounds.all_rounds(n, result)
                for least, greatest in intervals:
                    self.assertIs(True, rounds.possible_after(n, result, least))
                    if least > 1:
                        self.assertIs(False, rounds.possible_after(n, result, least - 1))
                    if greatest is not None:
                        self.assertIs(True, rounds.possible_after(n, result, greatest))
                        self.assertIs(False, rounds.possible_after(n, result, greatest + 1))
                        with self.assertRaises(errors.Impossible) as caught:
                            rounds.plan(n, result, greatest + 1, greatest + 1)
                        self.same(("rounds", intervals), caught.exception.reason)


class TestTurnedRings(RingCase):

    def test_rounds(self):
        for n in (4, 60):
            for some in some_rounds(n, 4, n):
                for turn in (1, n // 2, n - 1):
                    other = turned_round(n, turn, some)
                    result = running.run(n, some)
                    self.same(turned(n, turn, turned_servers(n, turn, result)), running.run(n, other))
                    self.same(sorted(turned_servers(n, turn, drops.drops_of(n, some))), drops.drops_of(n, other))
                    twice = rounds.after(n, [some, some])
                    self.same(turned(n, turn, turned_servers(n, turn, twice)), rounds.after(n, [other, other]))
                    self.same(rounds.all_rounds(n, twice), rounds.all_rounds(n, rounds.after(n, [other, other])))

    def test_live_rings(self):
        for n in (5, 60):
            weights = [(i * i) % 23 for i in range(n)]
            for some in some_rounds(n, 3, 2 * n):
                for turn in (1, n - 2):
                    ring = Ring(n, weights)
                    other = Ring(n, turned(n, turn, weights))
                    for batch in some + some[:-1]:
                        ring.restart(batch)
                        other.restart(sorted(turned_servers(n, turn, batch)))
                        self.same(turned(n, turn, turned_servers(n, turn, ring.places())), other.places())
                        self.same(turned(n, turn, ring.loads()), other.loads())
                        self.same(ring.peak(), other.peak())
                        self.same(sorted(turned_servers(n, turn, ring.left())), other.left())
                        for i in (0, n // 2):
                            there = (i + turn) % n
                            self.same(sorted(turned_servers(n, turn, ring.can_end(i))), other.can_end(there))
                            for j in (0, 3):
                                self.same(ring.chance_of(i, j), other.chance_of(there, (j + turn) % n))


class TestTexts(RingCase):

    def test_results_have_texts(self):
        for n in (2, 5, 60):
            for some in some_rounds(n, 4, n + 3):
                result = running.run(n, some)
                order = [j for batch in some for j in batch]
                for servers in (result, drops.drops_of(n, some), order, orders.least_order(n, drops.drops_of(n, some))):
                    self.same(servers, texts.read_servers(texts.write_servers(servers)))
                for seen in (result, [None] * n, [j if i % 2 else None for i, j in enumerate(result)]):
                    back = texts.read_seen(texts.write_seen(seen))
                    self.same(seen, back)
                    self.assertIs(True, partial.fits(n, back))
                back = texts.read_round(texts.write_round(some))
                self.same(some, back)
                self.assertIs(True, rings.is_round(n, back))
                self.same(texts.write_round(some), texts.write_round(back))

    def test_sessions_over_several_rounds(self):
        n = 5
        some = [[1], [0, 3], [4], [2]]
        lines = ["ring 1 1 1 1 1"] + ["restart " + texts.write_servers(batch) for batch in some + some] + ["places"]
        places = session("\n".join(lines)).split("\n")[-1]
        self.same(rounds.after(n, [some, some]), texts.read_servers(places))
        answers = session("\n".join(lines + ["rounds " + places])).split("\n")
        self.same("2-2 5-", answers[-1])
        self.same([(2, 2), (5, None)], rounds.all_rounds(n, texts.read_servers(places)))


class TestGeneralRules(RingCase):

    def test_any_object(self):
        """Every argument that may be any object has its own error, or an answer."""
        n = 4
        calls = [
            (errors.NoRound, lambda thing: running.run(n, thing)),
            (errors.NoRound, lambda thing: rings.round_of(n, thing)),
            (errors.NoRound, lambda thing: rounds.after(n, [thing])),
            # No round at all is a list of rounds.
            (errors.NoRound, lambda thing: rounds.after(n, thing if thing != [] else None)),
            (errors.NoDrops, lambda thing: drops.ends(n, thing)),
            (errors.NoDrops, lambda thing: rounds.repeated(n, thing, 1)),
            (errors.NoAssignment, lambda thing: drops.reason(n, thing)),
            (errors.NoAssignment, lambda thing: rounds.all_rounds(n, thing)),
            (errors.NoAssignment, lambda thing: rounds.possible_after(n, thing, 1)),
            (errors.NoAssignment, lambda thing: rounds.reason_after(n, thing)),
            (errors.NoAssignment, lambda thing: rounds.shows_after(n, thing, thing)),
            (errors.NoAssignment, lambda thing: rounds.plan(n, thing, 1, 1)),
            (errors.NoObservation, lambda thing: partial.fits(n, thing)),
            (errors.NoWeights, lambda thing: loads.best_drops(n, thing, 2)),
            (errors.NoWeights, lambda thing: Ring(n, thing)),
            (errors.NoOrder, lambda thing: orders.order_number(n, thing)),
            (errors.NoBatch, lambda thing: Ring(n, [1] * n).restart(thing)),
        ]
        for thing in ANY_OBJECTS:
            before = repr(thing)
            for error, call in calls:
                with self.assertRaises(ValueError) as caught:
                    call(thing)
                self.assertIs(error, type(caught.exception))
            for judged in (rings.is_round, rings.is_drops, rings.is_assignment):
                self.assertIs(False, judged(n, thing))
            self.assertIs(False, drops.shows(n, [0, 0, 0, 0], thing))
            self.assertIs(False, partial.shows_conflict(n, [0, 0, 0, 0], thing))
            self.assertIs(False, rounds.shows_after(n, [0, 0, 0, 0], thing))
            self.assertEqual(before, repr(thing))

    def test_certificates_may_be_passed_back(self):
        source = random.Random(12)
        for n in (3, 5, 60):
            for _ in range(40):
                some = [source.randrange(n) for _ in range(n)]
                for reason, shows in ((drops.reason, drops.shows), (partial.conflict, partial.shows_conflict),
                                      (rounds.reason_after, rounds.shows_after)):
                    why = reason(n, some)
                    if why is not None:
                        self.assertIs(True, shows(n, some, why))
                        self.assertIs(True, shows(n, some, copy.deepcopy(why)))
                # What no number of rounds has, one round does not have either.
                if rounds.reason_after(n, some) is not None:
                    self.assertIsNotNone(drops.reason(n, some))

    def test_later_calls_do_not_see_what_happened_to_results(self):
        n = 5
        some = [[1], [0, 3], [4], [2]]
        ring = Ring(n, [1] * n)
        ring.restart([1])
        calls = [
            lambda: rounds.after(n, [some]), lambda: rounds.after(n, []), lambda: rounds.repeated(n, [0, 1, 3], 2),
            lambda: rounds.all_rounds(n, [1, 3, 3, 0, 0]), lambda: rounds.reason_after(n, [0, 2, 1, 0, 0]),
            lambda: rounds.plan(n, [1, 3, 3, 0, 0], 4, 2), ring.places, ring.loads, ring.left, ring.history,
            lambda: ring.can_end(1), lambda: ring.can_end(0), lambda: texts.read_round("1 / 0 3"),
            lambda: texts.read_servers("1 3 3"), lambda: texts.read_seen("1 ? 3"),
        ]
        expected = [repr(call()) for call in calls]
        kept = [call() for call in calls] + [call() for call in calls]
        lists = lists_in(kept)
        self.assertEqual(len(lists), len({id(each) for each in lists}))
        spoil(kept)
        self.assertEqual(expected, [repr(call()) for call in calls])

    def test_results_of_a_ring_may_be_passed_back(self):
        for n in (2, 5, 60):
            ring = Ring(n, [1] * n)
            ring.restart([0])
            ring.restart(ring.left())
            self.assertIs(True, rings.is_round(n, ring.history()))
            self.assertIs(True, drops.possible(n, ring.places()))
            again = Ring(n, ring.loads())
            for batch in ring.history():
                again.restart(batch)
            self.same(ring.history(), again.history())
            again.restart(ring.can_end(0)[1:])
            self.same([0], again.left())


if __name__ == "__main__":
    unittest.main()
