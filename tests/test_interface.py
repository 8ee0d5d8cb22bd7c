import inspect
import unittest

from ringrestart import drops, errors, rings, running
from support import BIG, FUNCTIONS, RingCase

FILES = {
    rings: ["is_round", "is_drops", "is_assignment", "distance", "times", "round_of"],
    running: ["places_after", "run", "moves"],
    drops: ["drops_of", "ends", "possible", "reason", "shows", "drops_from"],
}

# Arguments with which each function succeeds, for n = 4.
GOOD = {
    "n": 4, "thing": [[0, 1], [2, 3]], "i": 1, "j": 2, "batches": [[0, 2], [3], [1]], "numbers": [5, 4, 5, 3], "k": 2,
    "drops": [0, 2], "assignment": [2, 2, 0, 0],
}
WRONG = {
    "n": [1, 61, 0, -4, BIG], "i": [4, -1, BIG], "j": [4, -1, -BIG], "k": [4, -1, BIG],
    "batches": [None, [], [[0, 1, 2, 3]], [[0], [1]], [[0, 2], [3], [True]]], "numbers": [None, [1] * 4, [1, 2, 3]],
    "drops": [None, [], [0, 1, 2, 3], [2, 0], [4]], "assignment": [None, [], [0] * 3, [0, 1, 2, 4], [True] * 4],
}
ERRORS = {
    "n": "NoRing", "i": "NoServer", "j": "NoServer", "k": "NoNumber", "batches": "NoRound", "numbers": "NoRound",
    "drops": "NoDrops", "assignment": "NoAssignment",
}


class TestInterface(RingCase):

    def test_functions_stand_in_their_files(self):
        many = 0
        for file, names in FILES.items():
            for name in names:
                function = getattr(file, name)
                self.assertTrue(inspect.isfunction(function))
                self.assertEqual(file.__name__, function.__module__)
                self.assertEqual(name, function.__name__)
                many += 1
        self.assertEqual(len(FUNCTIONS), many)

    def test_names_of_arguments(self):
        for function, names in FUNCTIONS.items():
            self.assertEqual(names, tuple(inspect.signature(function).parameters))


class TestOrderOfChecks(RingCase):

    def test_all_good(self):
        for function, names in FUNCTIONS.items():
            self.gives(function(*[GOOD[name] for name in names]), function, *[GOOD[name] for name in names])

    def test_first_wrong_argument_decides(self):
        for function, names in FUNCTIONS.items():
            for first, name in enumerate(names):
                for wrong in WRONG.get(name, []):
                    error = getattr(errors, ERRORS[name])
                    good = [GOOD[each] for each in names]
                    self.fails(error, function, *good[:first], wrong, *good[first + 1:])
                    for other in range(first + 1, len(names)):
                        for also in WRONG.get(names[other], ["nonsense"]):
                            bad = good[:first] + [wrong] + good[first + 1:]
                            bad[other] = also
                            self.fails(error, function, *bad)


class TestNewLists(RingCase):

    def test_results_of_different_calls_do_not_share_lists(self):
        batches = [[0, 2], [3], [1]]
        calls = [
            (rings.times, (4, batches)), (rings.round_of, (4, [1, 0, 1, 0])), (running.places_after, (4, batches, 0)),
            (running.places_after, (4, batches, 3)), (running.run, (4, batches)), (running.moves, (4, batches, 0)),
            (drops.drops_of, (4, batches)), (drops.ends, (4, [0, 2])), (drops.drops_from, (4, [2, 2, 0, 0])),
        ]
        kept = [function(*arguments) for _ in range(2) for function, arguments in calls]
        texts = [repr(each) for each in kept]
        for at, each in enumerate(kept):
            each.append("more")
            for inside in each:
                if isinstance(inside, list):
                    inside.append("more")
            self.assertEqual(texts[at + 1:], [repr(other) for other in kept[at + 1:]])
        for at, (function, arguments) in enumerate(calls):
            self.assertEqual(texts[at], repr(function(*arguments)))

    def test_results_may_be_passed_back(self):
        n = 5
        for numbers in ([1, 0, 3, 1, 2], [9, 9, 9, 9, -1], [0, 1, 2, 3, 4]):
            batches = rings.round_of(n, numbers)
            self.assertIs(True, rings.is_round(n, batches))
            self.same(batches, rings.round_of(n, rings.times(n, batches)))
            result = running.run(n, batches)
            self.assertIs(True, rings.is_assignment(n, result))
            self.assertIs(True, drops.possible(n, result))
            self.assertIs(True, rings.is_drops(n, drops.drops_of(n, batches)))
            self.same(drops.drops_of(n, batches), drops.drops_from(n, result))
            self.same(result, drops.ends(n, drops.drops_from(n, result)))
            self.same(result, running.places_after(n, batches, len(batches)))


if __name__ == "__main__":
    unittest.main()
