"""[87], [88]: runs that lead back."""

import itertools
import random
import unittest

from sharedunseen import backs
from sharedunseen.errors import InvalidNumber, InvalidRun, InvalidState, Refused
from sharedunseen.stores import Store
from tests.support import Alike, Odd, all_ops, big_store, done, error_of, many_stores, names_in, not_names, not_numbers
from tests.support import not_tuples
from tests.sorts import random_run, whole_stores

RING = Store(3, ((("up", (1, 2, 0), (0, 0, 0)), ("two", (2, 0, 1), (0, 0, 0))), (("b", (0, 0, 1), (0, 0, 0)),)))


def joint(store, states, run):
    return tuple(done(store, state, run)[0] for state in states)


def tuples_behind(store, office, start):
    seen = {start}
    todo = [start]
    while todo:
        here = todo.pop()
        for _, ends, _ in store.offices[office]:
            there = tuple(ends[state] for state in here)
            if there not in seen:
                seen.add(there)
                todo.append(there)
    return seen


class AmendTest(unittest.TestCase):

    def test_all_runs_tried(self):
        rng = random.Random(41)
        for store in many_stores(42, 200):
            if store.size > 6:
                continue
            for office in range(len(store.offices)):
                names = names_in(store, [office])
                for _ in range(3):
                    done_run, wished = (tuple(rng.choice(names) for _ in range(rng.randrange(4))) if names else () for _ in "ab")
                    state = rng.randrange(store.size)
                    goal = done(store, state, wished)[0]
                    start = done(store, state, done_run)[0]
                    expected = None
                    for length in range(store.size):
                        for run in itertools.product(names, repeat=length):
                            if expected is None and done(store, start, run)[0] == goal:
                                expected = run
                    self.assertEqual(backs.amend_run(store, office, state, done_run, wished), expected)

    def test_unseen_reversible_stores(self):
        """There is always a run, the same in each joint home of the others, whatever these did after `done`."""
        rng = random.Random(46)
        for store in itertools.chain(whole_stores(47, 60), whole_stores(48, 40, offices=3, size=16)):
            office = rng.randrange(len(store.offices))
            others = [k for k in range(len(store.offices)) if k != office]
            done_run, wished = random_run(rng, store, 4, [office]), random_run(rng, store, 4, [office])
            state = rng.randrange(store.size)
            run = backs.amend_run(store, office, state, done_run, wished)
            self.assertIsNotNone(run)
            for _ in range(4):
                meanwhile = random_run(rng, store, 4, others)
                other = done(store, state, meanwhile)[0]
                self.assertEqual(backs.amend_run(store, office, other, done_run, wished), run)
                goal = done(store, state, wished + meanwhile)[0]
                self.assertEqual(done(store, state, done_run + meanwhile + run)[0], goal)

    def test_errors_in_order(self):
        for office in not_numbers() + [2]:
            self.assertEqual(error_of(self, InvalidNumber, backs.amend_run, RING, office, 9, None, None).word, "office")
        for state in not_numbers() + [3]:
            error_of(self, InvalidState, backs.amend_run, RING, 0, state, None, None)
        for run, at in ((None, -1), (["up"], -1), (("up", "b"), 1), (("x",), 0), (("up",) * 9999 + (1,), 9999)):
            self.assertEqual(error_of(self, InvalidRun, backs.amend_run, RING, 0, 0, run, 5).at, at)
            self.assertEqual(error_of(self, InvalidRun, backs.amend_run, RING, 0, 0, (), run).at, at)
            self.assertEqual(error_of(self, InvalidRun, backs.amend_run, RING, 0, 0, ("b",), run).at, 0)

    def test_keywords_and_long_runs(self):
        run = ("up",) * 10000
        self.assertEqual(backs.amend_run(store=RING, office=0, state=1, done=run, wished=("up",) * 9999), ("two",))
        self.assertEqual(backs.amend_run(RING, 1, 0, (), ()), ())
        self.assertIsNone(backs.amend_run(RING, 1, 2, ("b", "b"), ("b",)))


class BackTimesTest(unittest.TestCase):

    def test_by_its_words(self):
        for store in many_stores(43, 200):
            for name, (_, ends, _) in all_ops(store).items():
                states = list(ends)
                times = 0
                while states != list(range(store.size)) and times < 10:
                    states = [ends[state] for state in states]
                    times += 1
                self.assertEqual(backs.back_times(store, name), times if times < 10 else None)

    def test_big(self):
        sizes = [2, 3, 5, 7, 11, 13, 17, 19, 23, 29, 31]
        ends = []
        for size in sizes:
            ends += [len(ends) + (k + 1) % size for k in range(size)]
        ends += range(len(ends), 200)
        product = 1
        for size in sizes:
            product *= size
        store = Store(200, ((("a", tuple(ends), (0,) * 200), ("b", tuple(range(200)), (0,) * 200)), ()))
        self.assertEqual(backs.back_times(store, "a"), product - 1)
        self.assertEqual(backs.back_times(store=store, name="b"), 0)

    def test_wrong_names(self):
        for name in not_names() + ["x", ("up",)]:
            self.assertEqual(error_of(self, InvalidRun, backs.back_times, RING, name).at, 0)
            self.assertEqual(error_of(self, InvalidRun, backs.common_back, RING, name, None).at, 0)


class CommonBackTest(unittest.TestCase):

    def test_all_runs_tried(self):
        rng = random.Random(44)
        found = 0
        for store in many_stores(45, 300):
            for name, (office, ends, _) in all_ops(store).items():
                states = tuple(sorted(rng.sample(range(store.size), rng.randrange(store.size + 1))))
                start = tuple(ends[state] for state in states)
                behind = tuples_behind(store, office, start)
                run = backs.common_back(store, name, states)
                if states not in behind:
                    self.assertIsNone(run)
                    continue
                self.assertEqual(joint(store, start, run), states)
                if len(run) > 5:
                    continue
                found += len(run) > 1
                for length in range(len(run) + 1):
                    first = [r for r in itertools.product(names_in(store, [office]), repeat=length)
                             if joint(store, start, r) == states]
                    if length < len(run):
                        self.assertEqual(first, [])
                self.assertEqual(run, first[0])
        self.assertGreater(found, 20)

    def test_wrong_states(self):
        wrong = not_tuples() + [(3,), (1, 0), (0, 0), (-1,), (True,), (0, "1"), (None,), (0, Alike()), (Odd(),), [0]]
        for states in wrong:
            error_of(self, InvalidState, backs.common_back, RING, "up", states)
        self.assertEqual(backs.common_back(RING, "up", ()), ())
        self.assertEqual(backs.common_back(store=RING, name="up", states=(0, 1, 2)), ("two",))
        self.assertIsNone(backs.common_back(RING, "b", (0, 1)))

    def rings(self, sizes):
        """Rings side by side that one operation turns by one; another one turns just the first ring."""
        ends = []
        for size in sizes:
            ends += [len(ends) + (k + 1) % size for k in range(size)]
        first = [(k + 1) % sizes[0] for k in range(sizes[0])] + list(range(sizes[0], len(ends)))
        zeros = (0,) * len(ends)
        return Store(len(ends), ((("a", tuple(ends), zeros), ("b", tuple(first), zeros)), ()))

    def test_wide(self):
        # The pairs are as many as the product of the sizes: 1,000 and, just beyond, 1,001.
        self.assertEqual(len(tuples_behind(self.rings((100, 10)), 0, (0, 100))), 1000)
        self.assertIsNotNone(backs.common_back(self.rings((100, 10)), "a", (0, 100)))
        self.assertEqual(error_of(self, Refused, backs.common_back, self.rings((77, 13)), "a", (0, 77)).word, "wide")
        self.assertEqual(error_of(self, Refused, backs.common_back, self.rings((77, 13)), "b", (0, 77)).word, "wide")
        self.assertEqual(backs.common_back(self.rings((77, 13)), "b", (0,)), ("a",) * 76)

    def test_wide_before_none(self):
        ends = [(k + 1) % 50 for k in range(50)] + [50 + (k + 1) % 21 for k in range(21)] + [0]
        first = [(k + 1) % 50 for k in range(50)] + list(range(50, 72))
        zeros = (0,) * 72
        store = Store(72, ((("a", tuple(ends), zeros), ("b", tuple(first), zeros)), ()))
        self.assertIsNone(backs.common_back(store, "a", (71,)))
        self.assertEqual(error_of(self, Refused, backs.common_back, store, "a", (0, 50, 71)).word, "wide")

    def test_big(self):
        store = big_store()
        run = backs.common_back(store, "zaa", tuple(range(200)))
        self.assertEqual(joint(store, range(200), ("zaa",) + run), tuple(range(200)))
        self.assertEqual(len(run), 7)


if __name__ == "__main__":
    unittest.main()
