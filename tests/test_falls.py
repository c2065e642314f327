"""[97], [98], [99]: operations that fall, regions by themselves, and what a run merges."""

import itertools
import random
import unittest

from sharedunseen import falls
from sharedunseen.clashes import all_clashes
from sharedunseen.errors import InvalidNumber, InvalidRun, InvalidState, Refused
from sharedunseen.homes import joint_homes
from sharedunseen.shared import shared_group
from sharedunseen.stores import Store
from tests.sorts import all_sorts, is_reversible, is_smooth, is_unseen, random_run, smooth_stores
from tests.support import Alike, Odd, Touchy, big_store, done, error_of, names_in, not_names, not_numbers, not_tuples
from tests.test_homes import TAIL, home_by_words, lots_of, reach_by_words

STORE = Store(3, ((("a", (1, 2, 2), (0, 0, 0)),), (("b", (0, 0, 2), (0, 0, 0)),)))


def regions(store, offices=None):
    reach = reach_by_words(store, offices)
    return [frozenset(home_by_words(reach, state)) for state in range(store.size)]


def others_of(store, office):
    return tuple(k for k in range(len(store.offices)) if k != office)


def deepest_by_words(store, state, offices):
    """How deep the homes lie one below the other: all ways down tried."""
    homes = regions(store, offices)
    steps = {}
    for office in range(len(store.offices)) if offices is None else offices:
        for _, ends, _ in store.offices[office]:
            for here, there in enumerate(ends):
                if homes[here] != homes[there]:
                    steps.setdefault(homes[here], set()).add(homes[there])

    def depth(home):
        return max((1 + depth(further) for further in steps.get(home, ())), default=0)
    return depth(homes[state])


class FallsTest(unittest.TestCase):

    def test_by_their_words(self):
        fallen = 0
        for store in all_sorts(221, 200):
            homes = regions(store)
            for row in store.offices:
                for name, ends, _ in row:
                    expected = tuple(s for s in range(store.size) if homes[ends[s]] != homes[s])
                    self.assertEqual(falls.falls(store, name), expected)
                    fallen += 0 < len(expected) < store.size
        self.assertGreater(fallen, 50)

    def test_places(self):
        rng = random.Random(222)
        fallen = 0
        for store in all_sorts(223, 150):
            homes = regions(store)
            for _ in range(12):
                state = rng.randrange(store.size)
                run = random_run(rng, store, 6)
                states = [done(store, state, run[:k])[0] for k in range(len(run) + 1)]
                expected = tuple(k for k in range(len(run)) if homes[states[k]] != homes[states[k + 1]])
                self.assertEqual(falls.fall_places(store, state, run), expected)
                fallen += len(expected) > 1
        self.assertGreater(fallen, 10)

    def test_deepest(self):
        depths = set()
        for store in all_sorts(224, 150):
            for offices in [None] + lots_of(len(store.offices)):
                for state in range(store.size):
                    found = falls.deepest(store, state, offices)
                    self.assertEqual(found, deepest_by_words(store, state, offices))
                    depths.add(found)
            if is_smooth(store):
                for state in range(store.size):
                    single = [falls.deepest(store, state, (office,)) for office in range(len(store.offices))]
                    self.assertLessEqual(falls.deepest(store, state), sum(single))
        self.assertGreater(len(depths), 3)

    def test_smooth_stores(self):
        """What the document says of falls in smooth stores."""
        rng = random.Random(225)
        for store in smooth_stores(226, 120):
            for office, row in enumerate(store.offices):
                own = reach_by_words(store, [office])
                rest = regions(store, others_of(store, office))
                others = names_in(store, others_of(store, office))
                for name, ends, _ in row:
                    fallen = falls.falls(store, name)
                    self.assertEqual(fallen, tuple(s for s in range(store.size) if s not in own[ends[s]]))
                    for state in range(store.size):
                        self.assertIn(len(rest[state] & set(fallen)), (0, len(rest[state])))
                        for other in others:
                            self.assertTrue(state in fallen or done(store, state, (other,))[0] not in fallen)
            state = rng.randrange(store.size)
            run = random_run(rng, store, 6)
            for place in falls.fall_places(store, state, run):
                office = [k for k in range(len(store.offices)) if run[place] in names_in(store, [k])][0]
                places = [k for k, name in enumerate(run) if name in names_in(store, [office])]
                alone = tuple(run[k] for k in places)
                self.assertIn(places.index(place), falls.fall_places(store, state, alone))

    def test_errors(self):
        for name in not_names() + ["x", ("a",)]:
            self.assertEqual(error_of(self, InvalidRun, falls.falls, STORE, name).at, 0)
        for state in not_numbers() + [3]:
            error_of(self, InvalidState, falls.fall_places, STORE, state, None)
            error_of(self, InvalidState, falls.deepest, STORE, state, 7)
        for run, at in ((None, -1), (["a"], -1), (("a", "x"), 1), ((Alike(),), 0), (("b",) * 9999 + (1,), 9999)):
            self.assertEqual(error_of(self, InvalidRun, falls.fall_places, STORE, 0, run).at, at)
        wrong = [value for value in not_tuples() if value is not None]
        for offices in wrong + [(2,), (1, 0), (0, 0), (-1,), (True,), ("0",), (0, None)]:
            self.assertEqual(error_of(self, InvalidNumber, falls.deepest, STORE, 0, offices).word, "offices")

    def test_big(self):
        self.assertEqual(falls.falls(store=TAIL, name="go"), tuple(range(199)))
        self.assertEqual(falls.fall_places(store=TAIL, state=1, run=("go",) * 10000), tuple(range(198)))
        self.assertEqual(falls.deepest(store=TAIL, state=0, offices=None), 199)
        self.assertEqual(falls.deepest(TAIL, 0, (1,)), 0)
        self.assertEqual(falls.deepest(TAIL, 199, (0,)), 0)
        self.assertEqual(falls.deepest(big_store(), 7), 0)


class StoppedTest(unittest.TestCase):

    def test_by_its_words(self):
        rng = random.Random(227)
        for store in all_sorts(228, 150):
            lot = tuple(sorted(rng.sample(range(store.size), rng.randrange(1, store.size + 1))))
            rows = []
            for row in store.offices:
                rows.append(tuple((name, tuple(lot.index(ends[s] if ends[s] in lot else s) for s in lot),
                                   tuple(told[s] for s in lot)) for name, ends, told in row))
            self.assertEqual(falls.stopped(store, lot), Store(len(lot), tuple(rows)))
            self.assertEqual(falls.stopped(store, tuple(range(store.size))), store)

    def test_regions(self):
        """A region of a smooth store is smooth and reversible, has the same joint homes, and is unseen if the store is."""
        for store in smooth_stores(229, 100):
            for region in set(regions(store)):
                lot = tuple(sorted(region))
                alone = falls.stopped(store, lot)
                self.assertTrue(is_smooth(alone))
                self.assertTrue(is_reversible(alone))
                self.assertTrue(is_unseen(alone) or not is_unseen(store))
                for offices in lots_of(len(store.offices)):
                    whole = joint_homes(store, offices)
                    part = joint_homes(alone, offices)
                    for one, other in itertools.combinations(range(len(lot)), 2):
                        self.assertEqual(whole[lot[one]] == whole[lot[other]], part[one] == part[other])

    def test_errors(self):
        for lot in not_tuples() + [(), (3,), (1, 0), (1, 1), (-1,), (True,), (0, "1"), (Odd(),), (Alike(),), (Touchy(),)]:
            self.assertEqual(error_of(self, Refused, falls.stopped, STORE, lot).word, "lot")
        self.assertEqual(falls.stopped(store=STORE, lot=(1,)).offices, ((("a", (0,), (0,)),), (("b", (0,), (0,)),)))


class SplitTest(unittest.TestCase):

    def test_by_its_words(self):
        rng = random.Random(231)
        unlike = 0
        for store in all_sorts(232, 250):
            for office in range(len(store.offices)):
                own, rest = regions(store, [office]), regions(store, others_of(store, office))
                for _ in range(2):
                    state = rng.randrange(store.size)
                    run = random_run(rng, store, 4, [office])
                    cell = sorted(own[state] & rest[state])
                    ends = [done(store, s, run)[0] for s in range(store.size)]
                    near = [s for s in cell if own[ends[s]] == own[ends[state]]]
                    merged = [s for s in cell if ends[s] == ends[state]]
                    expected = (tuple(merged), tuple(near), tuple(cell))
                    self.assertEqual(falls.split_of(store, state, run, office=office), expected)
                    unlike += merged != near or near != cell
        self.assertGreater(unlike, 20)

    def test_smooth_stores(self):
        """What the document says of the three lots."""
        rng = random.Random(233)
        for store in smooth_stores(234, 150):
            for office in range(len(store.offices)):
                own, rest = regions(store, [office]), regions(store, others_of(store, office))
                state = rng.randrange(store.size)
                run = random_run(rng, store, 4, [office])
                merged, near, cell = falls.split_of(store, state, run, office=office)
                ends = [done(store, s, run)[0] for s in cell]
                self.assertEqual({ends.count(end) for end in ends}, {len(merged)})
                into = [own[end] for end in ends]
                self.assertEqual({into.count(home) for home in into}, {len(near)})
                self.assertEqual(len({rest[end] for end in ends}), 1)
                end = done(store, state, run)[0]
                if state in reach_by_words(store)[end]:
                    self.assertEqual((merged, near), ((state,), cell))

    def fall_store(self):
        """Shares of a ring of four that an operation of office 0 leads to shares of a ring of two."""
        turn = (1, 2, 3, 0, 5, 4)
        return Store(6, ((("a", turn, (0,) * 6), ("f", (4, 5, 4, 5, 4, 5), (0,) * 6)), (("b", turn, (0,) * 6),)))

    def test_group(self):
        """In the group of the stopped region products of `near` are in `near`, those of `merged` in `merged`."""
        self.assertTrue(is_smooth(self.fall_store()))
        self.assertEqual(falls.split_of(self.fall_store(), 1, ("f",)), ((1, 3), (0, 1, 2, 3), (0, 1, 2, 3)))
        rng = random.Random(235)
        merged_some = 0
        for store in [self.fall_store()] * 20 + list(smooth_stores(236, 300)):
            if not is_unseen(store):
                continue
            state = rng.randrange(store.size)
            run = random_run(rng, store, 3, [0])
            merged, near, _ = falls.split_of(store, state, run)
            lot = tuple(sorted(regions(store)[state]))
            group = shared_group(falls.stopped(store, lot), base=lot.index(state))
            share = {lot[s]: k for k, s in enumerate(group.shares)}
            table = group.table
            for few in (merged, near):
                shares = {share[s] for s in few}
                self.assertTrue({table[i][j] for i in shares for j in shares} <= shares)
            inside = {share[s] for s in merged}
            for s in near:
                back = table[share[s]].index(0)
                self.assertTrue({table[table[share[s]][j]][back] for j in inside} <= inside)
            merged_some += 1 < len(merged)
        self.assertGreater(merged_some, 5)

    def test_errors_in_order(self):
        for state in not_numbers() + [3]:
            error_of(self, InvalidState, falls.split_of, STORE, state, None, office=9)
        for office in not_numbers() + [2]:
            self.assertEqual(error_of(self, InvalidNumber, falls.split_of, STORE, 0, None, office=office).word, "office")
        for run, at in ((None, -1), (["a"], -1), (("a", "b"), 1), ((Alike(),), 0), (("a",) * 9999 + (1,), 9999)):
            self.assertEqual(error_of(self, InvalidRun, falls.split_of, STORE, 0, run).at, at)
        self.assertEqual(error_of(self, InvalidRun, falls.split_of, STORE, 0, ("a",), office=1).at, 0)
        with self.assertRaises(TypeError):
            falls.split_of(STORE, 0, (), 0)

    def test_big(self):
        everything = tuple(range(200))
        self.assertEqual(falls.split_of(store=big_store(), state=5, run=("zaa",) * 10000, office=0), ((5,), everything, everything))
        self.assertEqual(falls.split_of(TAIL, 5, ("go",) * 10000), ((5,), (5,), (5,)))


if __name__ == "__main__":
    unittest.main()
