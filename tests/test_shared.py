"""[43], [44]: cells, and the group that an office and the others share."""

import itertools
import random
import unittest

from sharedunseen import shared
from sharedunseen.cards import group_store, pack
from sharedunseen.errors import InvalidNumber, Refused
from sharedunseen.groups import check_table, is_matching, matching, opposite
from sharedunseen.homes import homes, joint_homes
from sharedunseen.stores import Store
from tests.sorts import TABLES, is_reversible, is_unseen, random_run, whole_stores
from tests.support import big_store, done, error_of, many_stores, names_in, not_numbers
from tests.test_groups import dihedral, quaternions
from tests.test_homes import reach_by_words

SEEN = Store(2, ((("a", (1, 1), (0, 0)),), (("b", (0, 0), (0, 0)),)))
ONEWAY = Store(2, ((("a", (1, 1), (0, 0)),), ()))
BOTH = Store(2, ((("a", (1, 1), (0, 0)),), (("b", (0, 1), (0, 1)),)))


def others_of(store, office):
    return [k for k in range(len(store.offices)) if k != office]


def stores(seed, many):
    yield from whole_stores(seed, many)
    yield from whole_stores(seed, many // 2, offices=3, size=16)


def runs_to(store, state, offices):
    """Some run of the offices to each state that they reach."""
    found = {state: ()}
    todo = [state]
    while todo:
        here = todo.pop()
        for name in names_in(store, offices):
            there = done(store, here, (name,))[0]
            if there not in found:
                found[there] = found[here] + (name,)
                todo.append(there)
    return found


class CellsTest(unittest.TestCase):

    def test_by_their_words(self):
        measures = set()
        for store in stores(341, 100):
            for office in range(len(store.offices)):
                own = reach_by_words(store, [office])
                rest = reach_by_words(store, others_of(store, office))
                cells = [own[s] & rest[s] for s in range(store.size)]
                view = shared.cells(store, office=office)
                numbers = []
                for state in range(store.size):
                    least = min(cells[state])
                    numbers.append(max(numbers, default=-1) + 1 if least == state else numbers[least])
                self.assertEqual(view, tuple(numbers))
                self.assertEqual({len(cell) for cell in cells}, {len(cells[0])})
                first = len(set(joint_homes(store, tuple(others_of(store, office)))))
                expected = (first, len(cells[0]), len(set(homes(store, office))))
                self.assertEqual(shared.measure(store, office=office), expected)
                self.assertEqual(expected[0] * expected[1] * expected[2], store.size)
                for s, t in itertools.product(range(store.size), repeat=2):
                    self.assertEqual(len(own[s] & rest[t]), expected[1])
                measures.add(expected)
            self.assertEqual(shared.cells(store), shared.cells(store, office=0))
            self.assertEqual(shared.measure(store), shared.measure(store, office=0))
        self.assertGreater(len(measures), 15)

    def test_group(self):
        """The products by their words, by any runs and in either order."""
        rng = random.Random(342)
        sizes = set()
        for store in stores(343, 80):
            office = rng.randrange(len(store.offices))
            base = rng.randrange(store.size)
            group = shared.shared_group(store, office=office, base=base)
            self.assertIs(group.__class__, shared.Shared)
            own = runs_to(store, base, [office])
            rest = runs_to(store, base, others_of(store, office))
            cell = sorted(set(own) & set(rest) - {base})
            self.assertEqual(group.shares, (base,) + tuple(cell))
            self.assertIsNone(check_table(group.table))
            for i, x in enumerate(group.shares):
                for j, y in enumerate(group.shares):
                    product = done(store, base, own[x] + rest[y])[0]
                    self.assertEqual(product, done(store, base, rest[y] + own[x])[0])
                    self.assertEqual(group.shares[group.table[i][j]], product)
            sizes.add(len(group.shares))
            for _ in range(4):
                left, right = random_run(rng, store, 4, [office]), random_run(rng, store, 4, others_of(store, office))
                x, y = done(store, base, left)[0], done(store, base, right)[0]
                if x in group.shares and y in group.shares:
                    i, j = group.shares.index(x), group.shares.index(y)
                    self.assertEqual(done(store, base, left + right)[0], group.shares[group.table[i][j]])
        self.assertTrue({1, 2, 3, 6} <= sizes)

    def test_two_offices(self):
        """The other office has the opposite table, and the tables for all bases match."""
        for store in whole_stores(344, 60):
            first = shared.shared_group(store)
            second = shared.shared_group(store, office=1)
            self.assertEqual(first.shares, second.shares)
            self.assertEqual(second.table, opposite(first.table))
            for base in range(store.size):
                self.assertIsNotNone(matching(first.table, shared.shared_group(store, base=base).table))

    def test_other_bases(self):
        """The product for the base b is that of x, the inverse of b, and y for any base of the cell."""
        for store in stores(345, 40):
            start = shared.shared_group(store, base=store.size - 1)
            table = start.table
            for b, state in enumerate(start.shares):
                group = shared.shared_group(store, base=state)
                back = table[b].index(0)
                for i, x in enumerate(group.shares):
                    for j, y in enumerate(group.shares):
                        product = table[table[start.shares.index(x)][back]][start.shares.index(y)]
                        self.assertEqual(group.shares[group.table[i][j]], start.shares[product])

    def test_every_group(self):
        for table in TABLES + [quaternions(), dihedral(5)]:
            many = tuple(range(len(table)))
            group = shared.shared_group(group_store(table, many, many))
            self.assertEqual(group.table, table)
            self.assertEqual(group.shares, many)
        self.assertEqual(shared.measure(pack(4)), (1, 24, 1))
        self.assertTrue(is_matching(shared.shared_group(pack(4)).table, shared.shared_group(pack(4), base=5).table,
                                    matching(shared.shared_group(pack(4)).table, shared.shared_group(pack(4), base=5).table)))

    def test_errors_in_order(self):
        for store in (SEEN, ONEWAY, BOTH, big_store()):
            for office in not_numbers() + [8]:
                for call in (shared.cells, shared.measure):
                    self.assertEqual(error_of(self, InvalidNumber, call, store, office=office).word, "office")
                self.assertEqual(error_of(self, InvalidNumber, shared.shared_group, store, office=office, base=None).word, "office")
            for base in not_numbers() + [200]:
                self.assertEqual(error_of(self, InvalidNumber, shared.shared_group, store, office=1, base=base).word, "base")
        for store, word in ((SEEN, "seen"), (ONEWAY, "oneway"), (BOTH, "seen"), (big_store(), "seen")):
            for call in (shared.cells, shared.measure, shared.shared_group):
                self.assertEqual(error_of(self, Refused, call, store).word, word)
        for store in many_stores(346, 150):
            unseen, whole = is_unseen(store), is_reversible(store)
            if not unseen or not whole:
                for call in (shared.cells, shared.measure, shared.shared_group):
                    self.assertEqual(error_of(self, Refused, call, store, office=1).word, "oneway" if unseen else "seen")
        for call in (shared.cells, shared.measure, shared.shared_group):
            with self.assertRaises(TypeError):
                call(Store(1, ((), ())), 0)

    def test_edges(self):
        one = Store(1, ((), ()))
        self.assertEqual((shared.cells(one), shared.measure(one)), ((0,), (1, 1, 1)))
        group = shared.shared_group(store=one, office=1, base=0)
        self.assertEqual((group.table, group.shares), (((0,),), (0,)))
        kept = shared.Shared(table=1, shares=[2])
        self.assertEqual((kept.table, kept.shares), (1, [2]))
        empty = Store(3, ((("a", (1, 2, 0), (0, 0, 0)),), ()))
        self.assertEqual((shared.measure(empty), shared.measure(empty, office=1)), ((3, 1, 1), (1, 1, 3)))
        self.assertEqual(shared.shared_group(empty, base=2).shares, (2,))

    def test_big(self):
        quiet = Store(200, tuple(tuple((n, e, (0,) * 200) for n, e, _ in row) for row in big_store().offices))
        group = shared.shared_group(quiet, office=0, base=7)
        self.assertEqual(group.shares, (7,) + tuple(range(7)) + tuple(range(8, 200)))
        self.assertEqual(shared.measure(quiet, office=1), (1, 100, 2))
        for i, j in ((1, 2), (150, 199), (0, 5)):
            x, y = group.shares[i] - 7, group.shares[j] - 7
            self.assertEqual(group.shares[group.table[i][j]], (x + y + 7) % 200)


if __name__ == "__main__":
    unittest.main()
