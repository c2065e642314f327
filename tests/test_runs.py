"""[12] to [15]: runs."""

import itertools
import random
import unittest

from sharedunseen import runs
from sharedunseen.errors import InvalidNumber, InvalidRun, InvalidState
from sharedunseen.stores import Store
from tests.support import Alike, Odd, all_ops, big_store, done, error_of, many_stores, names_in, not_names, not_numbers
from tests.support import not_tuples, odd_things

STORE = Store(3, ((("up", (1, 2, 2), (0, 0, 1)),), (("zero", (0, 0, 0), (0, 1, 2)),), ()))
LONG = ("up", "zero", "up", "up") * 2500


def not_states(store):
    return not_numbers() + [store.size, store.size + 1, 10 ** 30]


def not_offices(store):
    """Values that are neither None nor a lot of numbers of offices."""
    many = len(store.offices)
    wrong = [value for value in not_tuples() if value is not None]
    wrong += [(many,), (0, many), (-1,), (1, 0), (0, 0), (True,), (False,), (0, True), ("0",), (None,), (0, 1.0)]
    return wrong + [(Alike(),), (Odd(),), [0], (0, (1,)), (10 ** 30,)]


def lots_of_offices(store):
    many = len(store.offices)
    return [lot for k in range(many + 1) for lot in itertools.combinations(range(many), k)]


class CheckTest(unittest.TestCase):

    def test_check_state(self):
        for state in range(3):
            self.assertIsNone(runs.check_state(STORE, state))
        self.assertIsNone(runs.check_state(store=STORE, value=2))
        for value in not_states(STORE):
            error_of(self, InvalidState, runs.check_state, STORE, value)
        self.assertIsNone(runs.check_state(big_store(), 199))
        error_of(self, InvalidState, runs.check_state, big_store(), 200)

    def test_check_run(self):
        for run in ((), ("up",), ("zero", "up"), LONG):
            self.assertIsNone(runs.check_run(STORE, run))
        self.assertIsNone(runs.check_run(STORE, ("up", "up"), office=0))
        self.assertIsNone(runs.check_run(store=STORE, run=("zero",), office=1))
        self.assertIsNone(runs.check_run(STORE, (), office=2))

    def test_wrong_runs(self):
        for run in not_tuples():
            self.assertEqual(error_of(self, InvalidRun, runs.check_run, STORE, run).at, -1)
            self.assertEqual(error_of(self, InvalidRun, runs.check_run, STORE, run, office=1).at, -1)
        for name in not_names() + ["u", "upp", "ups", 0]:
            for at in (0, 5000, 9999):
                run = LONG[:at] + (name,) + LONG[at + 1:]
                self.assertEqual(error_of(self, InvalidRun, runs.check_run, STORE, run).at, at)
        self.assertEqual(error_of(self, InvalidRun, runs.check_run, STORE, ("up", 1, 2)).at, 1)
        self.assertEqual(error_of(self, InvalidRun, runs.check_run, STORE, ("up", "zero", 2), office=0).at, 1)
        self.assertEqual(error_of(self, InvalidRun, runs.check_run, STORE, ("up",), office=2).at, 0)

    def test_wrong_office(self):
        for office in not_numbers() + [3, 10 ** 30]:
            if office is not None:
                for run in ((), ("x",), None):
                    self.assertEqual(error_of(self, InvalidNumber, runs.check_run, STORE, run, office=office).word, "office")
        with self.assertRaises(TypeError):
            runs.check_run(STORE, (), 0)


class SequenceTest(unittest.TestCase):
    """The errors of all functions with a state, a run and more, in the sequence of the parameters."""

    def test_run_alone(self):
        for call in (runs.own_runs, runs.run_ends):
            for run, at in ((None, -1), (["up"], -1), (("up", "x"), 1), ((1,), 0)):
                self.assertEqual(error_of(self, InvalidRun, call, STORE, run).at, at)

    def test_own_run(self):
        for run, at in ((None, -1), (("up", "x"), 1)):
            for office in (0, 3, None):
                self.assertEqual(error_of(self, InvalidRun, runs.own_run, STORE, run, office).at, at)
        for office in not_numbers() + [3, 10 ** 30]:
            self.assertEqual(error_of(self, InvalidNumber, runs.own_run, STORE, ("up",), office).word, "office")

    def test_state_then_run(self):
        for call in (runs.after, runs.passed, runs.answers_of):
            for state in not_states(STORE):
                error_of(self, InvalidState, call, STORE, state, ("up",))
                error_of(self, InvalidState, call, STORE, state, None)
            for run, at in ((None, -1), (["up"], -1), (("up", "x"), 1), ((1,), 0), (LONG[:9999] + ("x",), 9999)):
                self.assertEqual(error_of(self, InvalidRun, call, STORE, 0, run).at, at)

    def test_state_then_offices(self):
        for call in (runs.reachable, runs.distances):
            for state in not_states(STORE):
                error_of(self, InvalidState, call, STORE, state)
                error_of(self, InvalidState, call, STORE, state, (9,))
            for offices in not_offices(STORE):
                self.assertEqual(error_of(self, InvalidNumber, call, STORE, 0, offices).word, "offices")

    def test_state_goal_length_offices(self):
        for state in not_states(STORE):
            error_of(self, InvalidState, runs.shortest_run, STORE, state, 0)
            error_of(self, InvalidState, runs.shortest_run, STORE, 0, state, (9,))
            error_of(self, InvalidState, runs.count_runs, STORE, state, 0, -1)
            error_of(self, InvalidState, runs.count_runs, STORE, 0, state, -1, (9,))
        for offices in not_offices(STORE):
            self.assertEqual(error_of(self, InvalidNumber, runs.shortest_run, STORE, 0, 0, offices).word, "offices")
            self.assertEqual(error_of(self, InvalidNumber, runs.count_runs, STORE, 0, 0, 0, offices).word, "offices")
            self.assertEqual(error_of(self, InvalidNumber, runs.count_runs, STORE, 0, 0, 501, offices).word, "length")
        for length in not_numbers() + [501, 10 ** 30]:
            self.assertEqual(error_of(self, InvalidNumber, runs.count_runs, STORE, 0, 0, length).word, "length")


class RunsTest(unittest.TestCase):

    def test_by_their_words(self):
        rng = random.Random(11)
        for store in many_stores(12, 200):
            names = names_in(store)
            table = all_ops(store)
            for _ in range(4):
                run = tuple(rng.choice(names) for _ in range(rng.randrange(8))) if names else ()
                state = rng.randrange(store.size)
                end, told = done(store, state, run)
                self.assertEqual(runs.after(store, state, run), end)
                self.assertEqual(runs.answers_of(store, state, run), told)
                self.assertEqual(runs.passed(store, state, run), tuple(done(store, state, run[:k])[0] for k in range(len(run) + 1)))
                self.assertEqual(runs.run_ends(store, run), tuple(done(store, s, run)[0] for s in range(store.size)))
                own = tuple(tuple(n for n in run if table[n][0] == k) for k in range(len(store.offices)))
                self.assertEqual(runs.own_runs(store, run), own)
                for k in range(len(store.offices)):
                    self.assertEqual(runs.own_run(store, run, k), own[k])

    def test_keywords_and_empty_runs(self):
        self.assertEqual(runs.after(store=STORE, state=1, run=()), 1)
        self.assertEqual(runs.passed(store=STORE, state=1, run=()), (1,))
        self.assertEqual(runs.answers_of(store=STORE, state=1, run=()), ())
        self.assertEqual(runs.run_ends(store=STORE, run=()), (0, 1, 2))
        self.assertEqual(runs.own_run(store=STORE, run=(), office=2), ())
        self.assertEqual(runs.own_runs(store=STORE, run=()), ((), (), ()))
        self.assertEqual(runs.reachable(store=STORE, state=1, offices=()), (1,))
        self.assertEqual(runs.distances(store=STORE, state=1, offices=()), (None, 0, None))
        self.assertEqual(runs.shortest_run(store=STORE, state=1, goal=1, offices=()), ())
        self.assertIsNone(runs.shortest_run(STORE, 1, 0, ()))
        self.assertEqual(runs.count_runs(store=STORE, state=1, goal=1, length=0, offices=()), 1)
        self.assertEqual(runs.count_runs(STORE, 1, 1, 1, ()), 0)

    def test_long(self):
        self.assertEqual(runs.after(STORE, 0, LONG), 2)
        self.assertEqual(len(runs.passed(STORE, 0, LONG)), 10001)
        self.assertEqual(sum(runs.answers_of(STORE, 0, LONG)), 1 + 2 * 2499 + 2499)
        self.assertEqual(runs.own_runs(STORE, LONG), (("up",) * 7500, ("zero",) * 2500, ()))
        store = big_store()
        run = store.names() * 250
        turn = sum(range(1, 41)) * 250
        self.assertEqual(runs.run_ends(store, run), tuple((s + turn) % 200 for s in range(200)))
        self.assertEqual(runs.after(store, 7, run), (7 + turn) % 200)


class ReachTest(unittest.TestCase):

    def paths(self, store, state, offices, most):
        """For each goal all runs of at most so many operations, shortest and then first."""
        names = names_in(store, offices)
        found = [[] for _ in range(store.size)]
        for length in range(most + 1):
            for run in itertools.product(names, repeat=length):
                found[done(store, state, run)[0]].append(run)
        return found

    def test_all_runs_tried(self):
        for store in many_stores(21, 150, sizes=(1, 5), operations=(0, 2)):
            for offices in lots_of_offices(store)[:4] + [None]:
                state = store.size // 2
                found = self.paths(store, state, offices, store.size)
                reached = tuple(goal for goal in range(store.size) if found[goal])
                self.assertEqual(runs.reachable(store, state, offices), reached)
                lengths = tuple(len(found[goal][0]) if found[goal] else None for goal in range(store.size))
                self.assertEqual(runs.distances(store, state, offices), lengths)
                for goal in range(store.size):
                    first = found[goal][0] if found[goal] else None
                    self.assertEqual(runs.shortest_run(store, state, goal, offices), first)
                    for length in range(store.size):
                        many = sum(len(run) == length for run in found[goal])
                        self.assertEqual(runs.count_runs(store, state, goal, length, offices), many)

    def test_all_offices(self):
        for store in many_stores(22, 40):
            every = tuple(range(len(store.offices)))
            for state in range(store.size):
                self.assertEqual(runs.distances(store, state), runs.distances(store, state, every))
                self.assertEqual(runs.reachable(store, state), runs.reachable(store, state, every))

    def test_big(self):
        store = big_store()
        self.assertEqual(runs.reachable(store, 5), tuple(range(200)))
        self.assertEqual(runs.shortest_run(store, 0, 80), ("zbn", "zbn"))
        self.assertEqual(runs.shortest_run(store, 0, 79), ("zbm", "zbn"))
        self.assertEqual(sum(runs.count_runs(store, 0, goal, 9) for goal in range(200)), 40 ** 9)
        few = sum(runs.count_runs(store, 0, goal, 500, (0,)) for goal in range(4, 200, 8))
        self.assertEqual(few, 5 ** 500)
        tail = Store(200, ((("go", tuple(min(s + 1, 199) for s in range(200)), (0,) * 200),), ()))
        self.assertEqual(runs.shortest_run(tail, 0, 199), ("go",) * 199)
        self.assertEqual(runs.distances(tail, 0), tuple(range(200)))
        self.assertIsNone(runs.shortest_run(tail, 1, 0))
        self.assertEqual((runs.count_runs(tail, 0, 199, 500), runs.count_runs(tail, 0, 199, 198)), (1, 0))

    def test_odd_things_change_nothing(self):
        for value in odd_things():
            error_of(self, InvalidState, runs.after, STORE, value, value)


if __name__ == "__main__":
    unittest.main()
