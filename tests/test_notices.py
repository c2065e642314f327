"""[20], [21], [23]: what is noticed."""

import itertools
import random
import unittest

from sharedunseen import notices
from sharedunseen.clashes import all_clashes
from sharedunseen.errors import InvalidRun, InvalidState
from sharedunseen.stores import Store
from tests.support import Alike, all_ops, big_store, done, error_of, many_stores, names_in, not_numbers, not_tuples

STORE = Store(3, ((("a", (0, 2, 2), (0, 0, 1)),), (("b", (1, 1, 2), (0, 0, 0)),)))
WRONG_RUNS = [(None, -1), (["a"], -1), (("a", "x"), 1), ((1,), 0), (("a",) * 9999 + (None,), 9999)]


def cut_by_words(store, states, run):
    """The answers during a cut and the copies after it, office by office."""
    table = all_ops(store)
    told = [None] * len(run)
    ends = []
    for office, state in enumerate(states):
        own = [k for k, name in enumerate(run) if table[name][0] == office]
        rest = [k for k, name in enumerate(run) if table[name][0] != office]
        for k in own:
            told[k] = table[run[k]][2][state]
            state = table[run[k]][1][state]
        for k in rest:
            state = table[run[k]][1][state]
        ends.append(state)
    return tuple(told), tuple(ends)


def noticed_by_words(store, state, run):
    told, ends = cut_by_words(store, (state,) * len(store.offices), run)
    end, single = done(store, state, run)
    table = all_ops(store)
    for place, name in enumerate(run):
        if told[place] != single[place]:
            return ("answers", place, table[name][0])
    for office, copy in enumerate(ends):
        if copy != end:
            return ("ends", len(run), office)
    return None


class CutTest(unittest.TestCase):

    def test_by_their_words(self):
        rng = random.Random(81)
        words = set()
        for store in many_stores(82, 300):
            names = names_in(store)
            for _ in range(4):
                run = tuple(rng.choice(names) for _ in range(rng.randrange(7))) if names else ()
                states = tuple(rng.randrange(store.size) for _ in store.offices)
                told, ends = cut_by_words(store, states, run)
                self.assertEqual(notices.cut_answers(store, states, run), told)
                self.assertEqual(notices.copies(store, states, run), ends)
                found = notices.noticed(store, states[0], run)
                self.assertEqual(found, noticed_by_words(store, states[0], run))
                words.add(found and found[0])
        self.assertEqual(words, {None, "answers", "ends"})

    def test_errors(self):
        wrong = not_tuples() + [(), (0,), (0, 0, 0), (0, 3), (-1, 0), (0, True), (0, None), [0, 0], (0, "0"), (0, Alike())]
        for states in wrong:
            error_of(self, InvalidState, notices.cut_answers, STORE, states, None)
            error_of(self, InvalidState, notices.copies, STORE, states, ("x",))
        for state in not_numbers() + [3]:
            error_of(self, InvalidState, notices.noticed, STORE, state, None)
            error_of(self, InvalidState, notices.nearest_clash, STORE, state)
            error_of(self, InvalidState, notices.soonest, STORE, state)
            error_of(self, InvalidState, notices.soonest_run, STORE, state)
        for run, at in WRONG_RUNS:
            self.assertEqual(error_of(self, InvalidRun, notices.cut_answers, STORE, (0, 0), run).at, at)
            self.assertEqual(error_of(self, InvalidRun, notices.copies, STORE, (0, 0), run).at, at)
            self.assertEqual(error_of(self, InvalidRun, notices.noticed, STORE, 0, run).at, at)

    def test_keywords_and_long_runs(self):
        run = ("a", "b") * 5000
        self.assertEqual(len(notices.cut_answers(store=STORE, states=(0, 1), run=run)), 10000)
        self.assertEqual(notices.copies(store=STORE, states=(2, 2), run=run), (2, 2))
        self.assertIsNone(notices.noticed(store=STORE, state=2, run=run))
        self.assertEqual(notices.noticed(STORE, 1, ()), None)
        store = big_store()
        run = store.names() * 250
        told, ends = cut_by_words(store, tuple(range(8)), run)
        self.assertEqual(notices.cut_answers(store, tuple(range(8)), run), told)
        self.assertEqual(notices.copies(store, tuple(range(8)), run), ends)


class SoonTest(unittest.TestCase):

    def nearest_by_words(self, store, state):
        found = all_clashes(store)
        for length in range(store.size):
            for run in itertools.product(names_in(store), repeat=length):
                fitting = [clash for clash in found if clash[2] == done(store, state, run)[0]]
                if fitting:
                    return run, fitting[0]
        return None

    def test_all_runs_tried(self):
        lengths = set()
        for store in many_stores(83, 250, sizes=(1, 5), operations=(0, 2)):
            for state in range(store.size):
                expected = self.nearest_by_words(store, state)
                self.assertEqual(notices.nearest_clash(store=store, state=state), expected)
                length = notices.soonest(store=store, state=state)
                self.assertEqual(length, None if expected is None else len(expected[0]) + 2)
                lengths.add(length)
                run = notices.soonest_run(store=store, state=state)
                if length is None:
                    self.assertIsNone(run)
                else:
                    self.assertEqual(len(run), length)
                    self.assertIsNotNone(noticed_by_words(store, state, run))
                for less in range(store.size + 2 if length is None else length):
                    for other in itertools.product(names_in(store), repeat=min(less, 4)):
                        self.assertIsNone(noticed_by_words(store, state, other))
        self.assertTrue({None, 2, 3, 4} <= lengths)

    def test_runs_of_stores_of_parts(self):
        for store in many_stores(84, 200):
            for state in range(store.size):
                run = notices.soonest_run(store, state)
                nearest = notices.nearest_clash(store, state)
                self.assertEqual(run is None, nearest is None)
                if run is not None:
                    self.assertIsNotNone(noticed_by_words(store, state, run))
                    self.assertIn(nearest[1], all_clashes(store))
                    self.assertEqual(done(store, state, nearest[0])[0], nearest[1][2])

    def test_a_clash_that_cannot_be_reached(self):
        store = Store(4, ((("a", (0, 1, 3, 3), (0,) * 4),), (("b", (1, 1, 2, 2), (0,) * 4),)))
        self.assertEqual(notices.nearest_clash(store, 0), None)
        self.assertEqual((notices.soonest(store, 0), notices.soonest_run(store, 0)), (None, None))
        self.assertEqual(notices.nearest_clash(store, 3), ((), ("a", "b", 3, "ends")))
        self.assertEqual(notices.soonest(store, 3), 2)

    def test_big(self):
        tail = tuple(min(s + 1, 199) for s in range(200))
        look = (0,) * 199 + (1,)
        store = Store(200, ((("go", tail, (0,) * 200),), (("look", tuple(range(200)), look),)))
        self.assertEqual(notices.nearest_clash(store, 0), (("go",) * 198, ("go", "look", 198, "answers")))
        self.assertEqual(notices.soonest(store, 0), 200)
        self.assertEqual(notices.soonest_run(store, 0), ("go",) * 199 + ("look",))
        self.assertIsNotNone(noticed_by_words(store, 0, notices.soonest_run(store, 0)))
        self.assertIsNone(notices.soonest(store, 199))


if __name__ == "__main__":
    unittest.main()
