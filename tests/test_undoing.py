"""[29], [30], [31]: runs that take operations and runs back."""

import itertools
import random
import unittest

from sharedunseen import undoing
from sharedunseen.stores import Store
from tests.sorts import all_sorts, random_run, shortest_by_words, smooth_stores, whole_stores
from tests.support import Alike, Odd, Touchy, all_ops, big_store, done, many_stores, names_in, not_names, not_tuples
from tests.test_homes import home_by_words, reach_by_words
from tests.test_weavings import weave


def rounds_by_words(store, state, run):
    here = state
    for times in range(1, store.size + 1):
        here = done(store, here, run)[0]
        if here == state:
            return times
    return None


def others_of(store, office):
    return [k for k in range(len(store.offices)) if k != office]


class UndoTest(unittest.TestCase):

    def test_by_their_words(self):
        found = set()
        for store in all_sorts(321, 160):
            for name, (office, ends, _) in all_ops(store).items():
                lengths = []
                for state in range(store.size):
                    run = shortest_by_words(store, ends[state], state, [office])
                    self.assertEqual(undoing.undo_run(store, state, name), run)
                    lengths.append(None if run is None else len(run))
                    able = tuple(k for k in range(len(store.offices)) if shortest_by_words(store, ends[state], state, [k]) is not None)
                    self.assertEqual(undoing.undoers(store, state, name), able)
                    self.assertEqual(run is not None, office in able)
                    found.add((lengths[-1], len(able)))
                self.assertEqual(undoing.undo_lengths(store, name), tuple(lengths))
        self.assertGreater(len(found), 6)

    def test_is_undo(self):
        rng = random.Random(322)
        verdicts = [0, 0]
        for store in many_stores(323, 200):
            for name, (office, ends, _) in all_ops(store).items():
                for state in range(store.size):
                    runs = [random_run(rng, store, 4), random_run(rng, store, 4, [office]), (), undoing.undo_run(store, state, name)]
                    for run in runs:
                        own = run is not None and not set(run) - set(names_in(store, [office]))
                        expected = own and done(store, ends[state], run)[0] == state
                        self.assertIs(undoing.is_undo(store, state, name, run), expected)
                        verdicts[expected] += 1
        self.assertGreater(min(verdicts), 100)

    def test_is_undo_any_value(self):
        store = Store(2, ((("a", (1, 0), (0, 0)),), (("b", (1, 0), (0, 0)),)))
        self.assertIs(undoing.is_undo(store=store, state=0, name="a", value=("a",) * 9999), True)
        wrong = not_tuples() + [(), ("b",), ("a", "x"), ["a"], ("a", "a"), ("a", "b", "a"), (("a",),), (Alike(),), (Odd(),), (Touchy(),)]
        for value in wrong + [(name,) for name in not_names() if not isinstance(name, list)]:
            self.assertIs(undoing.is_undo(store, 0, "a", value), False)

    def test_smooth_stores(self):
        """What the document says of undoing in smooth stores."""
        rng = random.Random(324)
        for store in smooth_stores(325, 150):
            reach = reach_by_words(store)
            for name, (office, ends, _) in all_ops(store).items():
                own = reach_by_words(store, [office])
                rest = reach_by_words(store, others_of(store, office))
                for state in range(store.size):
                    run = undoing.undo_run(store, state, name)
                    self.assertEqual(run is not None, state in reach[ends[state]])
                    for k in others_of(store, office):
                        alone = reach_by_words(store, [k])
                        both = ends[state] in alone[state] and state in alone[ends[state]]
                        self.assertEqual(k in undoing.undoers(store, state, name), both)
                    if run is None:
                        continue
                    self.assertLess(len(run), len(home_by_words(own, state)))
                    for other in home_by_words(rest, state):
                        self.assertEqual(undoing.undo_run(store, other, name), run)
                    meanwhile = random_run(rng, store, 2, others_of(store, office))
                    goal = done(store, state, meanwhile)[0]
                    for weaving in weave(((name,) + run, meanwhile))[:20] if len(run) < 5 else []:
                        self.assertEqual(done(store, state, weaving)[0], goal)

    def test_big(self):
        around = Store(200, ((("a", tuple((s + 1) % 200 for s in range(200)), (0,) * 200),), ()))
        self.assertEqual(undoing.undo_run(store=around, state=5, name="a"), ("a",) * 199)
        self.assertEqual(undoing.undo_lengths(store=around, name="a"), (199,) * 200)
        self.assertEqual(undoing.undoers(store=around, state=5, name="a"), (0,))
        self.assertEqual(undoing.undoers(big_store(), 7, "zaa"), (0, 2, 4, 6))
        self.assertEqual(len(undoing.undo_lengths(big_store(), "zbn")), 200)


class RoundsTest(unittest.TestCase):

    def test_by_their_words(self):
        rng = random.Random(331)
        told = set()
        for store in all_sorts(332, 200):
            for _ in range(4):
                state = rng.randrange(store.size)
                run = random_run(rng, store, 4)
                self.assertEqual(undoing.round_times(store, state, run), rounds_by_words(store, state, run))
            for name, (office, ends, _) in all_ops(store).items():
                for state in range(store.size):
                    back = shortest_by_words(store, ends[state], state)
                    expected = None
                    if back is not None:
                        run = (name,) + tuple(n for n in back if n in names_in(store, [office]))
                        times = rounds_by_words(store, state, run)
                        expected = None if times is None else (run, times)
                    self.assertEqual(undoing.powers_undo(store, state, name), expected)
                    told.add((back is None, expected and expected[1]))
        self.assertTrue({(True, None), (False, None), (False, 1), (False, 2)} <= told)

    def test_smooth_stores(self):
        """Two runs that lead round together have equal round times, which divide the states that both homes share."""
        rng = random.Random(333)
        found = set()
        for store in list(smooth_stores(334, 200)) + list(whole_stores(335, 200)):
            cut = rng.randrange(1, len(store.offices))
            offices, rest = list(range(cut)), list(range(cut, len(store.offices)))
            state = rng.randrange(store.size)
            own = random_run(rng, store, 3, offices)
            back = shortest_by_words(store, done(store, state, own)[0], state, rest)
            if back is None:
                continue
            times = undoing.round_times(store, state, own)
            self.assertEqual(times, undoing.round_times(store, state, back))
            homes = [home_by_words(reach_by_words(store, lot), state) for lot in (offices, rest)]
            self.assertEqual(len(homes[0] & homes[1]) % times, 0)
            found.add(times)
        self.assertTrue({1, 2, 3} <= found)

    def test_edges(self):
        around = Store(200, ((("a", tuple((s + 1) % 200 for s in range(200)), (0,) * 200),), (("z", (0,) * 200, (0,) * 200),)))
        self.assertEqual(undoing.round_times(store=around, state=3, run=("a",)), 200)
        self.assertEqual(undoing.round_times(around, 3, ("a",) * 9999), 200)
        self.assertEqual(undoing.round_times(around, 3, ()), 1)
        self.assertEqual(undoing.round_times(around, 0, ("z",)), 1)
        self.assertIsNone(undoing.round_times(around, 3, ("z",)))
        self.assertEqual(undoing.powers_undo(store=around, state=0, name="a"), (("a",), 200))
        self.assertEqual(undoing.powers_undo(around, 0, "z"), (("z",), 1))
        self.assertIsNone(undoing.powers_undo(around, 2, "z"))

    def test_parts(self):
        rng = random.Random(336)
        nones = [0, 0]
        for store in all_sorts(337, 200):
            for _ in range(3):
                state = rng.randrange(store.size)
                run = random_run(rng, store, 4)
                backs = []
                for office in range(len(store.offices)):
                    own = [name for name in run if name in names_in(store, [office])]
                    backs.append(shortest_by_words(store, done(store, state, own)[0], state, [office]))
                expected = None if None in backs else tuple(backs)
                self.assertEqual(undoing.undo_parts(store, state, run), expected)
                nones[expected is None] += 1
        self.assertGreater(min(nones), 50)
        self.assertEqual(undoing.undo_parts(store=big_store(), state=0, run=()), ((),) * 8)

    def test_parts_of_smooth_stores(self):
        rng = random.Random(338)
        for store in smooth_stores(339, 150):
            state = rng.randrange(store.size)
            run = random_run(rng, store, 3)
            end = done(store, state, run)[0]
            backs = undoing.undo_parts(store, state, run)
            self.assertEqual(backs is None, state not in reach_by_words(store)[end])
            if backs is not None:
                many = sum(map(len, backs))
                for weaving in itertools.islice(weave(backs) if many < 8 else [sum(backs, ())], 30):
                    self.assertEqual(done(store, end, weaving)[0], state)


if __name__ == "__main__":
    unittest.main()
