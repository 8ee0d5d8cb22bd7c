import inspect
import unittest

from ringrestart import batches, drops, errors, live, loads, orders, partial, rings, rounds, running, session, texts
from support import BIG, FUNCTIONS, RingCase

FILES = {
    rings: ["is_round", "is_drops", "is_assignment", "distance", "times", "round_of"],
    running: ["places_after", "run", "moves"],
    drops: ["drops_of", "ends", "possible", "reason", "shows", "drops_from"],
    batches: ["fewest_batches", "longest_run", "round_in_batches", "fewest_apart", "round_apart"],
    orders: ["order_count", "least_order", "nth_order", "order_number", "counts_by_drops", "chance"],
    loads: ["loads_after", "least_greatest", "best_drops", "fewest_for"],
    partial: [
        "fits", "conflict", "shows_conflict", "demands", "fitting_drops", "drop_count", "orders_left", "certain",
        "chance_given"],
    rounds: ["after", "repeated", "all_rounds", "possible_after", "reason_after", "shows_after", "plan"],
    texts: ["write_round", "read_round", "write_servers", "read_servers", "write_seen", "read_seen"],
    session: ["session"],
}

METHODS = {
    "__init__": ["n", "weights"], "restart": ["servers"], "places": [], "loads": [], "peak": [], "round_number": [],
    "left": [], "can_end": ["i"], "chance_of": ["i", "j"], "undo": [], "mark": [], "undo_to": ["mark"], "history": [],
    "__len__": [], "twin": [],
}

# Arguments with which each function succeeds, for n = 4.
GOOD = {
    "n": 4, "thing": [[0, 1], [2, 3]], "i": 1, "j": 2, "batches": [[0, 2], [3], [1]], "numbers": [5, 4, 5, 3], "k": 2,
    "drops": [0, 2], "assignment": [2, 2, 0, 0], "number": 3, "order": [2, 0, 3, 1], "weights": [3, 0, 10 ** 30, 1],
    "most": 2, "limit": 2 * 10 ** 30, "seen": [None, 2, None, None], "rounds": [[[0, 2], [3], [1]], [[3], [0, 1, 2]]],
    "r": 3, "s": 2, "servers": [0, 2], "text": "0 2", "rows": "ring 1 2\nrestart 1\nplaces",
}
WRONG = {
    "n": [1, 61, 0, -4, BIG], "i": [4, -1, BIG], "j": [4, -1, -BIG], "k": [4, -1, BIG],
    "batches": [None, [], [[0, 1, 2, 3]], [[0], [1]], [[0, 2], [3], [True]]], "numbers": [None, [1] * 4, [1, 2, 3]],
    "drops": [None, [], [0, 1, 2, 3], [2, 0], [4]], "assignment": [None, [], [0] * 3, [0, 1, 2, 4], [True] * 4],
    "number": [-1, 4, BIG, -BIG], "order": [None, [], [0, 1, 2], [0, 1, 2, 2], [1, 2, 3, 4], [False, True, 2, 3]],
    "weights": [None, [], [1] * 3, [1, 1, 1, -1], [10 ** 30 + 1, 1, 1, 1], [1, 1, 1, True]],
    "most": [1, 0, -1, -BIG], "limit": [-1, -2, -BIG],
    "seen": [None, [], [None] * 3, [0, 1, 2, 4], [None] * 3 + [True]],
    "rounds": [None, [None], [[]], [[[0], [1], [2], [3]], [[0], [1], [2]]], [[[0, 1], [2, 3]]] * 21],
    "r": [-1, -2, -BIG], "s": [0, -1, 4, BIG, -BIG],
}
ERRORS = {
    "n": "NoRing", "i": "NoServer", "j": "NoServer", "k": "NoNumber", "batches": "NoRound", "numbers": "NoRound",
    "drops": "NoDrops", "assignment": "NoAssignment", "number": "NoNumber", "order": "NoOrder", "weights": "NoWeights",
    "most": "NoNumber", "limit": "NoNumber", "seen": "NoObservation", "rounds": "NoRound", "r": "NoNumber",
    "s": "NoNumber",
}


class TestInterface(RingCase):

    def test_functions_stand_in_their_files(self):
        many = 0
        for file, names in FILES.items():
            for name in names:
                function = getattr(file, name)
                self.assertTrue(inspect.isfunction(function))
                self.assertEqual(file.__name__, function.__module__)
                self.assertEqual(name, function.__name__)
                many += 1
        self.assertEqual(len(FUNCTIONS), many)

    def test_names_of_arguments(self):
        for function, names in FUNCTIONS.items():
            self.assertEqual(names, tuple(inspect.signature(function).parameters))

    def test_methods_stand_in_the_class(self):
        self.assertTrue(inspect.isclass(live.Ring))
        self.assertEqual(live.__name__, live.Ring.__module__)
        for name, arguments in METHODS.items():
            method = vars(live.Ring)[name]
            self.assertTrue(inspect.isfunction(method))
            self.assertEqual(arguments, list(inspect.signature(method).parameters)[1:])


class TestOrderOfChecks(RingCase):

    def test_all_good(self):
        for function, names in FUNCTIONS.items():
            self.gives(function(*[GOOD[name] for name in names]), function, *[GOOD[name] for name in names])

    def test_first_wrong_argument_decides(self):
        # The functions of texts and sessions judge no argument: a text that cannot be read has its own error.
        checked = {function: names for function, names in FUNCTIONS.items() if names[0] == "n"}
        self.assertEqual(len(FUNCTIONS) - 7, len(checked))
        for function, names in checked.items():
            for first, name in enumerate(names):
                for wrong in WRONG.get(name, []):
                    error = getattr(errors, ERRORS[name])
                    good = [GOOD[each] for each in names]
                    self.fails(error, function, *good[:first], wrong, *good[first + 1:])
                    for other in range(first + 1, len(names)):
                        for also in WRONG.get(names[other], ["nonsense"]):
                            bad = good[:first] + [wrong] + good[first + 1:]
                            bad[other] = also
                            self.fails(error, function, *bad)


class TestNewLists(RingCase):

    def test_results_of_different_calls_do_not_share_lists(self):
        some = [[0, 2], [3], [1]]
        weights = [5, 0, 2, 1]
        calls = [
            (rings.times, (4, some)), (rings.round_of, (4, [1, 0, 1, 0])), (running.places_after, (4, some, 0)),
            (running.places_after, (4, some, 3)), (running.run, (4, some)), (running.moves, (4, some, 0)),
            (drops.drops_of, (4, some)), (drops.ends, (4, [0, 2])), (drops.drops_from, (4, [2, 2, 0, 0])),
            (batches.round_in_batches, (4, [0, 2])), (batches.round_apart, (4, [0, 2])),
            (orders.least_order, (4, [0, 2])), (orders.nth_order, (4, [0, 2], 1)), (orders.counts_by_drops, (4,)),
            (loads.loads_after, (4, some, weights, 0)), (loads.loads_after, (4, some, weights, 3)),
            (loads.best_drops, (4, weights, 3)), (partial.fitting_drops, (4, [None, 2, None, None])),
            (partial.certain, (4, [None, 2, None, None])), (rounds.after, (4, [])), (rounds.after, (4, [some, some])),
            (rounds.repeated, (4, [0, 2], 0)), (rounds.repeated, (4, [0, 2], 3)),
            (rounds.all_rounds, (4, [2, 2, 0, 0])), (rounds.all_rounds, (4, [1, 2, 3, 0])),
            (rounds.plan, (4, [2, 2, 0, 0], 3, 1)),
            (texts.read_round, ("0 2 / 3 / 1",)), (texts.read_servers, ("0 2",)), (texts.read_seen, ("0 ? 2",)),
        ]
        kept = [function(*arguments) for _ in range(2) for function, arguments in calls]
        before = [repr(each) for each in kept]
        for at, each in enumerate(kept):
            each.append("more")
            for inside in each:
                if isinstance(inside, list):
                    inside.append("more")
            self.assertEqual(before[at + 1:], [repr(other) for other in kept[at + 1:]])
        for at, (function, arguments) in enumerate(calls):
            self.assertEqual(before[at], repr(function(*arguments)))

    def test_results_may_be_passed_back(self):
        n = 5
        for numbers in ([1, 0, 3, 1, 2], [9, 9, 9, 9, -1], [0, 1, 2, 3, 4]):
            some = rings.round_of(n, numbers)
            self.assertIs(True, rings.is_round(n, some))
            self.same(some, rings.round_of(n, rings.times(n, some)))
            result = running.run(n, some)
            self.assertIs(True, rings.is_assignment(n, result))
            self.assertIs(True, drops.possible(n, result))
            self.assertIs(True, rings.is_drops(n, drops.drops_of(n, some)))
            self.same(drops.drops_of(n, some), drops.drops_from(n, result))
            self.same(result, drops.ends(n, drops.drops_from(n, result)))
            self.same(result, running.places_after(n, some, len(some)))

    def test_later_results_may_be_passed_back(self):
        n = 5
        for some in (batches.round_in_batches(n, [0, 1, 3]), batches.round_apart(n, [0, 1, 3])):
            self.assertIs(True, rings.is_round(n, some))
            self.same([0, 1, 3], drops.drops_of(n, some))
        order = orders.nth_order(n, [0, 1, 3], orders.order_count(n, [0, 1, 3]) - 1)
        self.same([0, 1, 3], drops.drops_of(n, [[j] for j in order]))
        self.same(7, orders.order_number(n, order))
        weights = loads.loads_after(n, [[1], [0, 3], [4], [2]], [5, 1, 1, 2, 4], 2)
        best = loads.best_drops(n, weights, loads.fewest_for(n, weights, 10))
        self.assertIs(True, rings.is_drops(n, best))
        seen = partial.certain(n, [None, 3, None, None, 0])
        self.same(seen, partial.certain(n, seen))
        self.assertIs(True, partial.fits(n, drops.ends(n, partial.fitting_drops(n, seen))))
        self.assertIs(True, partial.shows_conflict(n, [2, None, None, 1, None],
                                                   partial.conflict(n, [2, None, None, 1, None])))


if __name__ == "__main__":
    unittest.main()
