"""[62] to [65]: copies put together from their states."""

import random
import unittest

from sharedunseen import merges
from sharedunseen.errors import Refused
from sharedunseen.stores import Store
from tests.sorts import all_sorts, is_smooth, other_answers, random_run, smooth_stores, whole_stores
from tests.support import big_store, done, error_of, errors_in_order, names_in, refused, wrong_numbers, wrong_runs
from tests.support import wrong_states, wrong_tuples
from tests.test_homes import reach_by_words
from tests.test_islands import not_islands, some_islands

GOOD = Store(3, ((("a", (1, 2, 0), (0, 1, 2)),), (("b", (2, 0, 1), (0, 0, 1)),), (("c", (0, 1, 2), (0, 0, 0)),)))
ROUGH = Store(3, ((("a", (1, 1, 0), (0, 0, 0)),), (("b", (0, 2, 1), (0, 0, 0)),), (("c", (0, 0, 0), (0, 0, 0)),)))
ISLANDS = [(value, ("InvalidNumber", "islands")) for value in not_islands() if value is not None]
ENDS = wrong_tuples((), (0, 1), (0, 1, 2, 0), (0, 3, 1), (0, -1, 0), (0, True, 0), (0, 1, None), [0, 1, 2])


def stores(seed, many):
    """Smooth stores: one-way and reversible ones, unseen and seen ones."""
    rng = random.Random(seed)
    yield from smooth_stores(seed, many)
    for offices in (2, 3, 4):
        for store in whole_stores(seed + offices, many // 4, offices=offices, most=2, size=16):
            yield store if rng.randrange(2) else other_answers(rng, store)


def islands_of(rng, store):
    """Islands as they are passed, and as lots."""
    alone = tuple((k,) for k in range(len(store.offices)))
    lots = some_islands(rng, store) if rng.randrange(3) else alone
    return (None if lots == alone and rng.randrange(2) else lots), lots


def random_ends(rng, store, lots, state):
    """Ends of some cut from the state, or some states."""
    if rng.randrange(4) == 0:
        return tuple(rng.randrange(store.size) for _ in lots)
    return tuple(done(store, state, random_run(rng, store, 5, lot))[0] for lot in lots)


def run_to(rng, store, lot, state, goal):
    """Some run of the offices, not the shortest one if it can be, or None."""
    if goal not in reach_by_words(store, lot)[state]:
        return None
    while True:
        run, here = [], state
        for _ in range(rng.randrange(4 * store.size)):
            names = names_in(store, lot)
            if not names:
                break
            run.append(rng.choice(names))
            here = done(store, here, run[-1:])[0]
            if here == goal and rng.randrange(2):
                break
        if here == goal:
            return tuple(run)


def shuffled(rng, runs):
    """Some weaving of the runs."""
    left = [list(run) for run in runs]
    found = []
    while any(left):
        found.append(rng.choice([row for row in left if row]).pop(0))
    return tuple(found)


def merged_by_words(rng, store, lots, state, ends):
    """Where some weaving of some runs leads, None if there are none."""
    runs = [run_to(rng, store, lot, state, end) for lot, end in zip(lots, ends)]
    return None if None in runs else done(store, state, shuffled(rng, runs))[0]


class IslandEndsTest(unittest.TestCase):

    def test_by_its_words(self):
        rng = random.Random(691)
        for store in all_sorts(692, 200):
            passed, lots = islands_of(rng, store)
            state, run = rng.randrange(store.size), random_run(rng, store, 6)
            expected = []
            for lot in lots:
                own = tuple(name for name in run if store.office_of(name) in lot)
                expected.append(done(store, state, own)[0])
            self.assertEqual(merges.island_ends(store, state, run, islands=passed), tuple(expected))

    def test_errors(self):
        for store in (GOOD, ROUGH):
            errors_in_order(self, merges.island_ends, {"store": store, "state": 1, "run": ("a", "b", "c"), "islands": None},
                            [("islands", ISLANDS), ("state", wrong_states(3)), ("run", wrong_runs("b", "d"))])
        self.assertEqual(merges.island_ends(store=GOOD, state=0, run=("a", "b") * 5000, islands=((1, 2), (0,))), (1, 2))
        self.assertEqual(merges.island_ends(GOOD, 0, ("a", "b")), (1, 2, 0))
        self.assertEqual(merges.island_ends(Store(1, ((), ())), 0, ()), (0, 0))


class MergedTest(unittest.TestCase):

    def test_all_weavings_lead_there(self):
        """Whatever the runs to the ends are, and however they are woven."""
        rng = random.Random(693)
        verdicts = [0, 0]
        for store in stores(694, 150):
            for _ in range(3):
                passed, lots = islands_of(rng, store)
                state = rng.randrange(store.size)
                ends = random_ends(rng, store, lots, state)
                expected = {merged_by_words(rng, store, lots, state, ends) for _ in range(3)}
                self.assertEqual(len(expected), 1)
                if expected == {None}:
                    self.assertEqual(error_of(self, Refused, merges.merged, store, state, ends, islands=passed).word, "reach")
                else:
                    self.assertEqual({merges.merged(store, state, ends, islands=passed)}, expected)
                verdicts[expected == {None}] += 1
        self.assertGreater(min(verdicts), 30)

    def test_logs(self):
        """A run and the ends to which it leads give where the single store is."""
        rng = random.Random(695)
        for store in stores(696, 100):
            state, run = rng.randrange(store.size), random_run(rng, store, 10)
            ends = merges.island_ends(store, state, run)
            self.assertEqual(merges.merged(store, state, ends), done(store, state, run)[0])

    def test_errors(self):
        reach = refused("reach", (0, 1, 1), (2, 0, 2))
        errors_in_order(self, merges.merged, {"store": GOOD, "state": 0, "ends": (0, 1, 0), "islands": None}, [
            ("islands", ISLANDS), ("state", wrong_states(3)), ("ends", ENDS), ("store", refused("ends", ROUGH)),
            ("ends", reach)])
        for store in all_sorts(697, 150):
            if not is_smooth(store):
                ends = (0,) * len(store.offices)
                self.assertEqual(error_of(self, Refused, merges.merged, store, 0, ends).word, "ends")

    def test_edges(self):
        self.assertEqual(merges.merged(Store(1, ((), ())), 0, (0, 0)), 0)
        self.assertEqual(merges.merged(GOOD, 1, (2,), islands=((0, 1, 2),)), 2)
        self.assertEqual(merges.merged(GOOD, 1, (2,), islands=((1,),)), 2)
        self.assertEqual(merges.merged(store=big_store(), state=7, ends=(15,) * 8, islands=None), 71)


class JoinEndsTest(unittest.TestCase):

    def test_line_by_line(self):
        rng = random.Random(701)
        moved = 0
        for store in stores(702, 150):
            passed, lots = islands_of(rng, store)
            if len(lots) < 2:
                continue
            state = rng.randrange(store.size)
            ends = random_ends(rng, store, lots, state)
            one, other = rng.sample(range(len(lots)), 2)
            end = merged_by_words(rng, store, lots, state, ends)
            if end is None:
                self.assertEqual(error_of(self, Refused, merges.join_ends, store, state, ends, one, other, islands=passed).word,
                                 "reach")
                continue
            both = merged_by_words(rng, store, [lots[one], lots[other]], state, [ends[one], ends[other]])
            new_lots = [tuple(sorted(lots[one] + lots[other])) if k == one else lot for k, lot in enumerate(lots)]
            new_ends = [both if k == one else e for k, e in enumerate(ends)]
            del new_lots[other], new_ends[other]
            told = merges.join_ends(store, state, ends, one, other, islands=passed)
            self.assertEqual(told, (tuple(new_lots), tuple(new_ends)))
            moved += both not in (ends[one], state)
            while True:
                self.assertEqual(merges.merged(store, state, told[1], islands=told[0]), end)
                if len(told[0]) == 1:
                    break
                one, other = rng.sample(range(len(told[0])), 2)
                told = merges.join_ends(store, state, told[1], one, other, islands=told[0])
            self.assertEqual(told[1], (end,))
        self.assertGreater(moved, 15)

    def test_errors(self):
        """`one` and `other` must not be equal, and each island must have a run, also those that are not joined."""
        same = [(0, ("InvalidNumber", "other"))]
        errors_in_order(self, merges.join_ends,
                        {"store": GOOD, "state": 0, "ends": (0, 1, 0), "one": 0, "other": 1, "islands": None}, [
                            ("islands", ISLANDS), ("state", wrong_states(3)), ("ends", ENDS),
                            ("one", wrong_numbers("one", 3)), ("other", wrong_numbers("other", 3) + same),
                            ("store", refused("ends", ROUGH)), ("ends", refused("reach", (0, 1, 1), (2, 0, 2)))])
        errors_in_order(self, merges.join_ends,
                        {"store": GOOD, "state": 0, "ends": (0, 1), "one": 1, "other": 0, "islands": ((1,), (0, 2))}, [
                            ("one", wrong_numbers("one", 2)), ("other", wrong_numbers("other", 2, 1))])

    def test_edges(self):
        self.assertEqual(merges.join_ends(GOOD, 0, (1, 2, 0), 2, 0), (((1,), (0, 2)), (2, 1)))
        told = merges.join_ends(store=big_store(), state=0, ends=(8,) * 8, one=7, other=3, islands=None)
        self.assertEqual(told, (((0,), (1,), (2,), (4,), (5,), (6,), (3, 7)), (8,) * 6 + (16,)))


class StartsTest(unittest.TestCase):

    def test_by_their_words(self):
        rng = random.Random(703)
        sizes = set()
        for store in stores(704, 120):
            passed, lots = islands_of(rng, store)
            ends = random_ends(rng, store, lots, rng.randrange(store.size))
            results = {}
            for state in range(store.size):
                end = merged_by_words(rng, store, lots, state, ends)
                if end is not None:
                    results[state] = end
            self.assertEqual(merges.starts(store, ends, islands=passed), tuple(sorted(results)))
            told = merges.outcomes(store, ends, islands=passed)
            self.assertEqual(told, tuple(sorted(set(results.values()))))
            for goal in range(store.size):
                expected = tuple(sorted(s for s, end in results.items() if end == goal))
                self.assertEqual(merges.starts_to(store, ends, goal, islands=passed), expected)
            sizes.add((len(results), len(told)))
        self.assertTrue({(0, 0), (1, 1), (2, 2), (2, 1), (3, 3), (3, 1)} <= sizes, sizes)

    def test_errors(self):
        wrong = [("islands", ISLANDS), ("ends", ENDS), ("store", refused("ends", ROUGH))]
        for call in (merges.starts, merges.outcomes):
            errors_in_order(self, call, {"store": GOOD, "ends": (0, 1, 2), "islands": None}, wrong)
        errors_in_order(self, merges.starts_to, {"store": GOOD, "ends": (0, 1, 2), "goal": 2, "islands": None},
                        wrong[:2] + [("goal", wrong_states(3))] + wrong[2:])

    def test_edges(self):
        one = Store(1, ((), ()))
        self.assertEqual((merges.starts(one, (0, 0)), merges.outcomes(one, (0, 0))), ((0,), (0,)))
        self.assertEqual(merges.starts_to(one, (0, 0), 0), (0,))
        self.assertEqual(merges.starts(big_store(), (0,) * 8), tuple(range(0, 200, 8)))
        self.assertEqual(merges.outcomes(store=big_store(), ends=(0,) * 8), tuple(range(0, 200, 8)))
        self.assertEqual(merges.outcomes(big_store(), (0, 8), islands=((0, 1, 2, 3), (4, 5, 6, 7))), tuple(range(200)))
        self.assertEqual(merges.starts_to(store=big_store(), ends=(0, 8), goal=9, islands=((0, 1), (4, 5))), (199,))
        line = Store(200, ((("go", tuple((s + 1) % 200 for s in range(200)), (0,) * 200),),
                           (("by", tuple((s + 1) % 200 for s in range(200)), (0,) * 200),)))
        self.assertEqual(merges.outcomes(line, (0, 100)), tuple(range(200)))


if __name__ == "__main__":
    unittest.main()
