"""[75], [76]: cores, commons, and the group of a core."""

import itertools
import random
import unittest

from sharedunseen import many
from sharedunseen.errors import Refused
from sharedunseen.groups import check_table, is_commutative, matching
from sharedunseen.shared import Shared, measure
from sharedunseen.stores import Store
from tests.sorts import is_reversible, is_unseen, turned_store, whole_stores
from tests.support import big_store, error_of, errors_in_order, many_stores, names_in, refused, wrong_numbers, wrong_states
from tests.test_homes import home_by_words, reach_by_words
from tests.test_joins import BOTH_THREE, GOOD, ONEWAY_THREE, REFUSED, SEEN_THREE
from tests.test_shared import BOTH, ONEWAY, SEEN, others_of

TWO = Store(2, ((("a", (1, 0), (0, 0)),), (("b", (1, 0), (0, 0)),)))
QUIET = Store(200, tuple(tuple((n, e, (0,) * 200) for n, e, _ in row) for row in big_store().offices))


def stores(seed, number):
    yield from whole_stores(seed, number, offices=3)
    yield from whole_stores(seed + 1, number // 3, offices=4, most=2, size=24)
    rng = random.Random(seed)
    for _ in range(3):
        yield turned_store(rng)


def view_by_words(lots):
    """The view of the states that have equal lots."""
    numbers = {}
    return tuple(numbers.setdefault(lot, len(numbers)) for lot in lots)


def lots_by_words(store, of_others):
    """For each state the states that are in its home for each office, or in its joint home for each office's others."""
    found = [set(range(store.size)) for _ in range(store.size)]
    for office in range(len(store.offices)):
        reach = reach_by_words(store, others_of(store, office) if of_others else [office])
        for state in range(store.size):
            found[state] &= home_by_words(reach, state)
    return [frozenset(lot) for lot in found]


def moved_pairs(store, start, without):
    """Where runs without an office lead a pair of states."""
    seen = {start}
    while True:
        fresh = seen | {(ends[s], ends[t]) for s, t in seen for k in others_of(store, without) for _, ends, _ in store.offices[k]}
        if fresh == seen:
            return seen
        seen = fresh


class CoresTest(unittest.TestCase):

    def test_by_their_words(self):
        seen = set()
        for store in itertools.chain(stores(681, 60), whole_stores(682, 60)):
            core, common = lots_by_words(store, False), lots_by_words(store, True)
            self.assertEqual(many.cores(store), view_by_words(core))
            self.assertEqual(many.commons(store), view_by_words(common))
            self.assertEqual({len(lot) for lot in core}, {len(core[0])})
            self.assertEqual({len(lot) for lot in common}, {len(common[0])})
            owns = tuple(measure(store, office=office)[0] for office in range(len(store.offices)))
            self.assertEqual(many.core_measure(store), (owns, len(common[0]), len(core[0])))
            size = len(common[0])
            for own in owns:
                size *= own
            self.assertEqual(size, store.size)
            self.assertTrue(all(lot <= further for lot, further in zip(core, common)))
            seen.add((len(store.offices), len(core[0]), len(common[0])))
        self.assertTrue({(2, 1, 1), (2, 4, 4), (3, 1, 1), (3, 1, 4), (3, 2, 4), (3, 3, 3), (3, 3, 12), (4, 2, 2)} <= seen, seen)

    def test_errors(self):
        for call in (many.cores, many.commons, many.core_measure):
            errors_in_order(self, call, {"store": GOOD}, [("store", REFUSED + refused("seen", SEEN, BOTH))])
            errors_in_order(self, call, {"store": TWO}, [("store", refused("oneway", ONEWAY))])
            for store in many_stores(683, 80):
                if not is_unseen(store) or not is_reversible(store):
                    self.assertEqual(error_of(self, Refused, call, store).word, "oneway" if is_unseen(store) else "seen")

    def test_edges(self):
        for offices in (2, 8):
            one = Store(1, ((),) * offices)
            self.assertEqual((many.cores(store=one), many.commons(store=one)), ((0,), (0,)))
            self.assertEqual(many.core_measure(store=one), ((1,) * offices, 1, 1))
        self.assertEqual(many.core_measure(QUIET), ((1, 1, 1, 1, 1, 1, 1, 1), 200, 25))
        self.assertEqual(many.cores(QUIET), tuple(s % 8 for s in range(200)))


class CoreGroupTest(unittest.TestCase):

    def test_core_end(self):
        """Runs in each of which some office has no operation lead the states of a core alike."""
        rng = random.Random(684)
        found = [0, 0]
        for store in stores(685, 40):
            core = lots_by_words(store, False)
            for _ in range(5):
                one, goal, state = (rng.randrange(store.size) for _ in range(3))
                if rng.randrange(4):
                    goal, state = (rng.choice(sorted(core[one])) for _ in range(2))
                end = many.core_end(store, one, goal, state)
                inside = {goal, state} <= core[one]
                self.assertIs(end is not None, inside)
                found[inside] += 1
                if inside:
                    for office in range(len(store.offices)):
                        ends = {t for s, t in moved_pairs(store, (one, state), office) if s == goal}
                        self.assertEqual(ends, {end})
        self.assertGreater(min(found), 20)

    def test_core_group(self):
        sizes = set()
        for store in stores(686, 60):
            core = lots_by_words(store, False)
            tables = []
            for base in range(store.size):
                group = many.core_group(store, base=base)
                self.assertIs(group.__class__, Shared)
                self.assertEqual(group.shares, (base,) + tuple(sorted(core[base] - {base})))
                self.assertIsNone(check_table(group.table))
                self.assertIs(is_commutative(group.table), True)
                tables.append(group.table)
            for i, j in itertools.product(range(len(group.shares)), repeat=2):
                end = many.core_end(store, base, group.shares[j], group.shares[i])
                self.assertEqual(group.shares[group.table[i][j]], end)
            self.assertEqual(many.core_group(store).table, tables[0])
            self.assertTrue(all(matching(tables[0], table) is not None for table in tables))
            sizes.add(len(tables[0]))
        self.assertTrue({1, 2, 3, 4} <= sizes)

    def test_errors(self):
        two = refused("offices", TWO, SEEN, ONEWAY, BOTH)
        self.assertEqual(error_of(self, Refused, many.core_group, Store(1, ((), ()))).word, "offices")
        errors_in_order(self, many.core_group, {"store": GOOD, "base": 1}, [
            ("base", wrong_numbers("base", 2)), ("store", two + refused("seen", SEEN_THREE, BOTH_THREE)),
            ("store", refused("oneway", ONEWAY_THREE))])
        errors_in_order(self, many.core_end, {"store": GOOD, "one": 0, "goal": 1, "state": 1}, [
            ("one", wrong_states(2)), ("goal", wrong_states(2)), ("state", wrong_states(2)),
            ("store", two + REFUSED)])

    def test_edges(self):
        one = Store(1, ((), (), ()))
        group = many.core_group(store=one, base=0)
        self.assertEqual((group.table, group.shares), (((0,),), (0,)))
        self.assertEqual(many.core_end(store=one, one=0, goal=0, state=0), 0)
        self.assertEqual(many.core_end(GOOD, 0, 1, 1), 0)
        group = many.core_group(QUIET, base=9)
        self.assertEqual(group.shares, (9, 1) + tuple(range(17, 200, 8)))
        self.assertEqual(len(group.table), 25)
        self.assertEqual(group.shares[group.table[2][3]], 33)
        self.assertEqual(many.core_end(QUIET, 1, 9, 193), 1)
        self.assertIsNone(many.core_end(QUIET, 1, 9, 192))
        whole = Store(200, tuple((("z" + letter, tuple((s + 1) % 200 for s in range(200)), (0,) * 200),) for letter in "abcdefgh"))
        self.assertEqual(len(many.core_group(whole, base=199).table), 200)
        self.assertEqual(len(names_in(whole)), 8)


if __name__ == "__main__":
    unittest.main()
