"""[72]: islands, and weavings that explain what they were answered."""

import random
import unittest

from sharedunseen import islands
from sharedunseen.errors import InvalidNumber, InvalidRun, InvalidState, Refused
from sharedunseen.stores import Store
from sharedunseen.texts import read_store
from tests.sorts import all_sorts, is_unseen, random_run
from tests.support import Alike, Odd, Touchy, big_store, done, error_of, names_in, not_numbers, not_tuples
from tests.test_weavings import weave

STORE = Store(3, ((("a", (1, 2, 0), (0, 1, 2)),), (("b", (0, 2, 1), (0, 0, 1)),), (("c", (0, 0, 2), (0, 0, 0)),)))
CALLS = [islands.island_answers, islands.explanation, islands.count_explanations]


def some_islands(rng, store):
    """Islands in any order, perhaps with offices left out."""
    offices = rng.sample(range(len(store.offices)), len(store.offices))
    lots = [[] for _ in range(rng.randrange(1, len(offices) + 1))]
    for k, lot in enumerate(lots):
        lot.append(offices[k])
    for office in offices[len(lots):]:
        if rng.randrange(3):
            rng.choice(lots).append(office)
    return tuple(tuple(sorted(lot)) for lot in lots)


def answers_by_run(store, state, runs, weaving):
    """The answers that a weaving gives, run by run."""
    owner = {name: k for k, run in enumerate(runs) for name in run}
    found = [[] for _ in runs]
    for name, answer in zip(weaving, done(store, state, weaving)[1]):
        found[owner[name]].append(answer)
    return tuple(tuple(row) for row in found)


def not_islands():
    """Values that are no islands of STORE."""
    wrong = not_tuples() + [(), [(0,)], ((),), ((0,), ()), ((), (1,)), ((0,), (0,)), ((0, 1), (1, 2)), ((1, 0),), ((0, 0),)]
    wrong += [((3,),), ((-1,),), ((True,),), ((0,), (True,)), ((0,), [1]), ((0,), ("1",)), (0, 1), ((0,), (1,), (2,), (0,))]
    wrong += [((value,),) for value in not_numbers()] + [((0,), value) for value in not_tuples()]
    return wrong


class IslandsTest(unittest.TestCase):

    def test_all_weavings_tried(self):
        rng = random.Random(241)
        found = set()
        for store in all_sorts(242, 250):
            lots = some_islands(rng, store)
            runs = tuple(random_run(rng, store, 3, lot) for lot in lots)
            if sum(map(len, runs)) > 7:
                continue
            state = rng.randrange(store.size)
            told = tuple(done(store, state, run)[1] for run in runs)
            self.assertEqual(islands.island_answers(store, state, lots, runs), told)
            weavings = weave(runs)
            fitting = [run for run in weavings if answers_by_run(store, state, runs, run) == told]
            first = fitting[0] if fitting else None
            self.assertEqual(islands.explanation(store, state, lots, runs), first)
            self.assertEqual(islands.count_explanations(store, state, lots, runs), len(fitting))
            for run in weavings[:30]:
                self.assertIs(islands.explains(store, state, lots, runs, run), run in fitting)
                self.assertIs(islands.explains(store, state, lots, runs, run + run[:1]), run == () and () in fitting)
                self.assertIs(islands.explains(store, state, lots, runs, run[1:]), run == () and () in fitting)
            if is_unseen(store):
                self.assertEqual(fitting, weavings)
            found.add(0 if not fitting else 1 if len(fitting) == len(weavings) else 2 if first == weavings[0] else 3)
        self.assertTrue({1, 2, 3} <= found)

    def test_none_explains(self):
        """Each island sets a bit of its own and then sees that the other one's is not set."""
        text = "states 4\noffice\nseta: 2/0 3/0 2/0 3/0\nseea: 0/0 1/1 2/0 3/1\n"
        text += "office\nsetb: 1/0 1/0 3/0 3/0\nseeb: 0/0 1/0 2/1 3/1"
        store = read_store(text)
        runs = (("seta", "seea"), ("setb", "seeb"))
        self.assertEqual(islands.island_answers(store, 0, ((0,), (1,)), runs), ((0, 0), (0, 0)))
        self.assertIsNone(islands.explanation(store, 0, ((0,), (1,)), runs))
        self.assertEqual(islands.count_explanations(store, 0, ((0,), (1,)), runs), 0)
        for run in weave(runs):
            self.assertIs(islands.explains(store, 0, ((0,), (1,)), runs, run), False)
        self.assertEqual(islands.explanation(store, 3, ((0,), (1,)), runs), runs[0] + runs[1])

    def test_explains_any_value(self):
        lots, runs = ((0,), (1, 2)), (("a",), ("c", "b"))
        told = tuple(done(STORE, 0, run)[1] for run in runs)
        weavings = [run for run in weave(runs) if answers_by_run(STORE, 0, runs, run) == told]
        self.assertEqual([run for run in weave(runs) if islands.explains(STORE, 0, lots, runs, run)], weavings)
        self.assertIn(("c", "b", "a"), weavings)
        wrong = not_tuples() + [(), ("a",), ("a", "b", "c"), ("c", "b", "a", "a"), ("c", "b"), ("c", "b", "x"), ["c", "b", "a"]]
        for at in range(3):
            for item in [None, 0, True, (), ["a"], Alike(), Odd(), Touchy()]:
                run = ("c", "b", "a")
                wrong.append(run[:at] + (item,) + run[at + 1:])
        for value in wrong:
            self.assertIs(islands.explains(STORE, 0, lots, runs, value), False)
        self.assertIs(islands.explains(store=STORE, state=0, islands=lots, runs=runs, value=("c", "b", "a")), True)

    def calls(self):
        return CALLS + [lambda store, state, lots, runs: islands.explains(store, state, lots, runs, None)]

    def test_wrong_states_and_islands(self):
        for call in self.calls():
            for state in not_numbers() + [3]:
                error_of(self, InvalidState, call, STORE, state, None, None)
            for value in not_islands():
                self.assertEqual(error_of(self, InvalidNumber, call, STORE, 0, value, None).word, "islands")

    def test_wrong_runs(self):
        lots = ((2, ), (0, 1))
        wrong = [(value, -1) for value in not_tuples()] + [((), -1), (((),), -1), (((), (), ()), -1), ([(), ()], -1)]
        wrong += [((value, None), 0) for value in not_tuples()] + [((("c",), value), 1) for value in not_tuples()]
        wrong += [((("a",), None), 0), ((("c",), ("a", "c")), 1), ((("c", "c", "x"), ("x",)), 0), ((("c",), (1,)), 1)]
        wrong += [((("c",), ("b", Alike())), 1), ((("c",) * 9999 + (0,), ()), 0)]
        for call in self.calls():
            for runs, at in wrong:
                self.assertEqual(error_of(self, InvalidRun, call, STORE, 0, lots, runs).at, at)

    def test_wide(self):
        lots = ((0,), (1, 2))
        for runs in ((("a",) * 9, ("b", "c") * 49 + ("b",)), (("a",) * 999, ()), ((), ("b",) * 999)):
            found = islands.explanation(store=STORE, state=0, islands=lots, runs=runs)
            many = islands.count_explanations(store=STORE, state=0, islands=lots, runs=runs)
            self.assertIs(found is None, many == 0)
            self.assertTrue(found is None or islands.explains(STORE, 0, lots, runs, found))
        for runs in ((("a",) * 12, ("b",) * 76), (("a",) * 1000, ()), (("a",) * 9, ("b",) * 100)):
            for call in (islands.explanation, islands.count_explanations):
                self.assertEqual(error_of(self, Refused, call, STORE, 0, lots, runs).word, "wide")
            self.assertEqual(len(islands.island_answers(STORE, 0, lots, runs)[0]), len(runs[0]))
            self.assertIsInstance(islands.explains(STORE, 0, lots, runs, runs[1] + runs[0]), bool)

    def test_long(self):
        runs = (("a",) * 10000, ("b",) * 10000)
        lots = ((0,), (1,))
        still = Store(2, ((("a", (1, 0), (0, 0)),), (("b", (0, 1), (1, 1)),)))
        self.assertEqual(islands.island_answers(still, 0, lots, runs), ((0,) * 10000, (1,) * 10000))
        self.assertIs(islands.explains(still, 0, lots, runs, ("a", "b") * 10000), True)
        self.assertIs(islands.explains(still, 0, lots, runs, ("a", "b") * 9999 + ("a",)), False)

    def test_many_islands(self):
        store = big_store()
        quiet = Store(200, tuple(tuple((n, e, (0,) * 200) for n, e, _ in row) for row in store.offices))
        runs = tuple((names_in(store, [k])[0],) for k in range(7)) + ((names_in(store, [7])[0],) * 6,)
        lots = tuple((k,) for k in range(8))
        self.assertEqual(islands.count_explanations(quiet, 0, lots, runs), 13 * 12 * 11 * 10 * 9 * 8 * 7)
        self.assertEqual(islands.explanation(quiet, 0, lots, runs), tuple(name for run in runs for name in run))
        one = tuple(name for run in runs for name in run)
        self.assertEqual(islands.explanation(store, 3, (tuple(range(8)),), (one,)), one)


if __name__ == "__main__":
    unittest.main()
