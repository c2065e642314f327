"""[56], [61]: the ends of one cut, several cuts, and runs that stand in for others."""

import random
import unittest

from sharedunseen import cuts
from sharedunseen.bases import tree_names
from sharedunseen.forms import made_names
from sharedunseen.names import left_of, name_of, names_of, right_of, state_of, store_of
from sharedunseen.shared import measure
from sharedunseen.stores import Store
from tests.sorts import all_sorts, is_unseen, random_run, shortest_by_words, whole_stores
from tests.support import Alike, Odd, Touchy, big_store, done, errors_in_order, many_stores, names_in, not_names, not_tuples
from tests.support import wrong_numbers, wrong_runs, wrong_states
from tests.test_merges import GOOD, ROUGH, shuffled


def random_events(rng, store, most):
    """Names and lots, in any order."""
    names = names_in(store)
    events = []
    for _ in range(rng.randrange(most + 1)):
        if names and rng.randrange(3):
            events.append(rng.choice(names))
        else:
            events.append(tuple(k for k in range(len(store.offices)) if rng.randrange(2)))
    return tuple(events)


def replay_by_words(store, state, events):
    """Counts, ends and answers: each copy has a log of the operations it has done."""
    offices = range(len(store.offices))
    logs = [[] for _ in offices]
    ends = [state for _ in offices]
    names, answers = [], []
    for event in events:
        if isinstance(event, str):
            office = store.office_of(event)
            end, told = done(store, ends[office], (event,))
            ends[office] = end
            answers.append(told[0])
            logs[office].append(len(names))
            names.append(event)
        else:
            known = sorted({place for office in event for place in logs[office]})
            for office in event:
                for place in known:
                    if place not in logs[office]:
                        logs[office].append(place)
                        ends[office] = done(store, ends[office], (names[place],))[0]
    counts = tuple(tuple(len([p for p in log if store.office_of(names[p]) == k]) for k in offices) for log in logs)
    return counts, tuple(ends), tuple(answers)


class CutEndsTest(unittest.TestCase):

    def test_by_its_words(self):
        rng = random.Random(921)
        for store in whole_stores(922, 120):
            names = tree_names(store, rng.randrange(store.size)) if rng.randrange(2) else names_of(store)
            for _ in range(3):
                state = rng.randrange(store.size)
                run, other = random_run(rng, store, 5, (0,)), random_run(rng, store, 5, (1,))
                told = cuts.cut_ends(names, state, run, other)
                both = done(store, state, shuffled(rng, (run, other)))[0]
                self.assertEqual(told, (done(store, state, run)[0], done(store, state, other)[0], both))
                p, g, q = name_of(names, state)
                (r, c), (d, t) = left_of(names, run, p), right_of(names, other, q)
                table = names.table
                expected = ((r, table[c][g], q), (p, table[g][d], t), (r, table[table[c][g]][d], t))
                self.assertEqual(told, tuple(state_of(names, name) for name in expected))

    def test_made_names(self):
        names = made_names(((0, 1), (1, 0)), {"a": ((1, 0), (1, 1))}, {}, {"a": (5, 6)})
        store = store_of(names)
        self.assertEqual([cuts.cut_ends(names, s, ("a", "a"), ())[0] for s in range(4)],
                         [done(store, s, ("a", "a"))[0] for s in range(4)])

    def test_errors(self):
        store = next(store for store in whole_stores(923, 99) if min(len(row) for row in store.offices) > 1
                     and min(measure(store)) > 1)
        names = names_of(store)
        a, b = names_in(store, (0,))[0], names_in(store, (1,))[0]
        errors_in_order(self, cuts.cut_ends, {"names": names, "state": 0, "run": (a, a), "other": (b,)}, [
            ("state", wrong_states(store.size)), ("run", wrong_runs(a, b)), ("other", wrong_runs(b, a))])

    def test_edges(self):
        self.assertEqual(cuts.cut_ends(names_of(Store(1, ((), ()))), 0, (), ()), (0, 0, 0))
        ring = tuple((s + 1) % 200 for s in range(200))
        names = names_of(Store(200, ((("a", ring, (0,) * 200),), (("b", ring, (0,) * 200),))))
        self.assertEqual(cuts.cut_ends(names=names, state=7, run=("a",) * 9999, other=("b",) * 9998), (6, 5, 4))


class ReplayTest(unittest.TestCase):

    def test_by_its_words(self):
        rng = random.Random(924)
        for store in all_sorts(925, 300):
            state, events = rng.randrange(store.size), random_events(rng, store, 12)
            told = cuts.replay(store, state, events)
            self.assertIs(told.__class__, cuts.Replay)
            self.assertEqual((told.counts, told.ends, told.answers), replay_by_words(store, state, events))

    def test_unseen_stores(self):
        """Copies are where weavings of what they know lead, and answers are those of a single store."""
        rng = random.Random(926)
        heard = 0
        for store in list(many_stores(927, 200)) + list(whole_stores(928, 60)) + list(whole_stores(929, 40, offices=3)):
            if not is_unseen(store):
                continue
            state, events = rng.randrange(store.size), random_events(rng, store, 14)
            told = cuts.replay(store, state, events)
            run = tuple(event for event in events if isinstance(event, str))
            self.assertEqual(told.answers, done(store, state, run)[1])
            self.assertEqual(told.answers, cuts.replay(store, state, run).answers)
            own = [[name for name in run if store.office_of(name) == k] for k in range(len(store.offices))]
            for counts, end in zip(told.counts, told.ends):
                known = shuffled(rng, [row[:count] for row, count in zip(own, counts)])
                self.assertEqual(done(store, state, known)[0], end)
                heard += len([count for count in counts if count]) > 1
        self.assertGreater(heard, 60)

    def test_meetings(self):
        """A copy hears of operations in the order in which they were first done, also through a third office."""
        store = Store(4, ((("a", (1, 1, 1, 1), (0, 1, 2, 3)),), (("b", (2, 2, 2, 2), (0, 1, 2, 3)),),
                          (("c", (3, 3, 3, 3), (0, 1, 2, 3)),)))
        told = cuts.replay(store, 0, ("b", "a", (1, 2), "c", (0, 2)))
        self.assertEqual((told.counts, told.ends, told.answers), (((1, 1, 1), (0, 1, 0), (1, 1, 1)), (3, 2, 1), (0, 0, 2)))
        self.assertEqual(cuts.replay(store, 0, ("b", "a", (0,), (), (1,), "a")).counts, ((2, 0, 0), (0, 1, 0), (0, 0, 0)))
        self.assertEqual(cuts.replay(store, 0, ("a", "b", (0, 1, 2), (0, 1, 2), "a", (0, 1))).ends, (1, 1, 2))

    def test_errors(self):
        wrong = [(value, ("InvalidRun", -1)) for value in not_tuples()]
        items = not_names() + ["zzz", (3,), (1, 0), (0, 0), (0, True), (-1,), ("a", "b"), [0, 1], (Alike(),), (0, Odd()), (Touchy(),)]
        for item in [item for item in items if not isinstance(item, tuple) or len(item)]:
            wrong += [((item,), ("InvalidRun", 0)), (("a", (0, 2), (), item, None), ("InvalidRun", 3))]
        for store in (GOOD, ROUGH):
            errors_in_order(self, cuts.replay, {"store": store, "state": 2, "events": ("a", (0, 1), "b", (), (2,), "b")}, [
                ("state", wrong_states(3)), ("events", wrong)])

    def test_edges(self):
        told = cuts.replay(Store(1, ((), ())), 0, ((), (0, 1), (1,)))
        self.assertEqual((told.counts, told.ends, told.answers), (((0, 0), (0, 0)), (0, 0), ()))
        store = big_store()
        names = names_in(store)
        events = tuple(names[k % 40] if k % 2 else tuple(range(8)) for k in range(1000))
        told = cuts.replay(store=store, state=5, events=events)
        self.assertEqual((told.counts, told.ends, told.answers), replay_by_words(store, 5, events))
        self.assertEqual(cuts.replay(store, 5, (names[0],) * 1000).ends[0], 5)


class StandInsTest(unittest.TestCase):

    def test_by_their_words(self):
        rng = random.Random(931)
        lengths = set()
        for store in all_sorts(932, 200):
            state, run = rng.randrange(store.size), random_run(rng, store, 8)
            many = rng.randrange(5)
            told = cuts.stand_ins(store, state, run, many)
            expected = []
            for office in range(len(store.offices)):
                own = tuple(name for name in run if store.office_of(name) == office) * many
                expected.append(shortest_by_words(store, state, done(store, state, own)[0], [office]))
                lengths.add(len(expected[-1]))
            self.assertEqual(told, tuple(expected))
            self.assertEqual(cuts.stand_ins(store, state, run), cuts.stand_ins(store, state, run, 1))
        self.assertTrue({0, 1, 2, 3} <= lengths, lengths)

    def test_unseen_stores(self):
        """They replace the own runs in each weaving, and at each copy behind operations of other offices."""
        rng = random.Random(933)
        for store in list(many_stores(934, 150)) + list(whole_stores(935, 60)) + list(whole_stores(936, 40, offices=3)):
            if not is_unseen(store):
                continue
            state, run, many = rng.randrange(store.size), random_run(rng, store, 6), rng.randrange(1, 4)
            told = cuts.stand_ins(store, state, run, many)
            self.assertEqual(done(store, state, shuffled(rng, told))[0], done(store, state, run * many)[0])
            for office, row in enumerate(told):
                rest = [k for k in range(len(store.offices)) if k != office]
                copy = done(store, state, random_run(rng, store, 4, rest))[0]
                own = tuple(name for name in run if store.office_of(name) == office) * many
                self.assertEqual(done(store, copy, row)[0], done(store, copy, own)[0])

    def test_errors(self):
        for store in (GOOD, ROUGH):
            errors_in_order(self, cuts.stand_ins, {"store": store, "state": 2, "run": ("a", "b"), "many": 10 ** 18}, [
                ("state", wrong_states(3)), ("run", wrong_runs("b", "d")),
                ("many", wrong_numbers("many", 10 ** 18 + 1, 10 ** 30))])

    def test_edges(self):
        self.assertEqual(cuts.stand_ins(Store(1, ((), ())), 0, (), 10 ** 18), ((), ()))
        self.assertEqual(cuts.stand_ins(GOOD, 1, ("a", "b"), 0), ((), (), ()))
        self.assertEqual(cuts.stand_ins(GOOD, 0, ("a", "c", "b"), 2), (("a", "a"), ("b", "b"), ()))
        ring = tuple((s + 1) % 200 for s in range(200))
        wide = Store(200, ((("a", ring, (0,) * 200),), (("b", ring, (0,) * 200),)))
        told = cuts.stand_ins(store=wide, state=9, run=("a", "a", "b") * 3333, many=10 ** 18)
        self.assertEqual(told, (("a",) * (6666 * 10 ** 18 % 200), ("b",) * (3333 * 10 ** 18 % 200)))
        self.assertEqual(cuts.stand_ins(wide, 9, ("a", "b", "a") * 3333, 10 ** 18 - 1), (("a",) * 134, ("b",) * 67))


if __name__ == "__main__":
    unittest.main()
