"""[45], [46]: runs that lead a state into its cell, and who did them."""

import itertools
import random
import unittest

from sharedunseen import loops
from sharedunseen.cards import group_store, pack
from sharedunseen.errors import Refused
from sharedunseen.groups import centre, generated, is_commutative
from sharedunseen.shared import measure, shared_group
from sharedunseen.stores import Store
from tests.sorts import TABLES, is_reversible, is_unseen, part_store, random_run, whole_stores
from tests.support import Alike, Odd, Touchy, big_store, done, error_of, errors_in_order, many_stores, names_in, not_names
from tests.support import not_numbers, not_tuples, refused, wrong_numbers, wrong_runs
from tests.test_groups import dihedral, orders, quaternions
from tests.test_homes import reach_by_words
from tests.test_shared import BOTH, ONEWAY, SEEN, others_of, runs_to

REFUSED = refused("seen", SEEN, BOTH) + refused("oneway", ONEWAY)
GOOD = Store(2, ((("a", (1, 0), (0, 0)),), (("b", (1, 0), (0, 0)),)))
PACK = pack(3)
QUIET = Store(200, tuple(tuple((n, e, (0,) * 200) for n, e, _ in row) for row in big_store().offices))


def some_stores(seed, many):
    yield from whole_stores(seed, many)
    yield from whole_stores(seed, many // 2, offices=3, size=16)
    for table in TABLES + [quaternions(), dihedral(4), dihedral(5)]:
        every = tuple(range(len(table)))
        yield group_store(table, every[1:], every[-3:])
    rng = random.Random(seed)
    for _ in range(many // 2):
        yield part_store(rng, orders(3), [rng.randrange(1, 3), rng.randrange(1, 3)], counts=(2, 4))
    yield PACK


def is_unlike(store, value, office, base):
    """Whether a triple of plain kinds is one, by [46]."""
    run, other, state = value
    own, rest = names_in(store, [office]), names_in(store, others_of(store, office))
    if not set(run) <= set(own) or not set(other) <= set(rest):
        return False
    cell = reach_by_words(store, [office])[base] & reach_by_words(store, others_of(store, office))[base]
    if state not in cell or done(store, base, run)[0] != done(store, base, other)[0]:
        return False
    return done(store, state, run)[0] != done(store, state, other)[0]


class ShareOfTest(unittest.TestCase):

    def test_by_its_words(self):
        rng = random.Random(661)
        inside = [0, 0]
        for store in some_stores(662, 80):
            if not is_reversible(store):
                continue
            for _ in range(6):
                office, base = rng.randrange(len(store.offices)), rng.randrange(store.size)
                group = shared_group(store, office=office, base=base)
                for lot in ([office], others_of(store, office)):
                    run = random_run(rng, store, 5, lot)
                    end = done(store, base, run)[0]
                    expected = group.shares.index(end) if end in group.shares else None
                    self.assertEqual(loops.share_of(store, run, office=office, base=base), expected)
                    inside[expected is None] += 1
        self.assertGreater(min(inside), 50)

    def test_products(self):
        """Behind one another runs of the office have the product of the second and the first, those of the others not."""
        rng = random.Random(663)
        unlike = 0
        for store in some_stores(664, 80):
            if not is_reversible(store):
                continue
            office, base = rng.randrange(len(store.offices)), rng.randrange(store.size)
            group = shared_group(store, office=office, base=base)
            for lot in ([office], others_of(store, office)):
                ways = [run for state, run in runs_to(store, base, lot).items() if state in group.shares]
                for one, other in itertools.islice(itertools.product(ways, repeat=2), 12):
                    i = loops.share_of(store, one, office=office, base=base)
                    j = loops.share_of(store, other, office=office, base=base)
                    both = loops.share_of(store, one + other, office=office, base=base)
                    self.assertEqual(both, group.table[j][i] if lot == [office] else group.table[i][j])
                    unlike += group.table[i][j] != group.table[j][i]
        self.assertGreater(unlike, 20)

    def test_errors(self):
        good = {"store": GOOD, "run": ("a", "a", "a"), "office": 0, "base": 1}
        errors_in_order(self, loops.share_of, good, [
            ("office", wrong_numbers("office", 2)), ("base", wrong_numbers("base", 2)), ("store", REFUSED),
            ("run", wrong_runs("a") + refused("mixed", ("a", "b"), ("b", "a", "b"), ("a",) * 9999 + ("b",)))])
        self.assertEqual(error_of(self, Refused, loops.share_of, GOOD, ("b", "a"), office=1).word, "mixed")

    def test_edges(self):
        one = Store(1, ((), ()))
        self.assertEqual(loops.share_of(store=one, run=()), 0)
        self.assertEqual(loops.share_of(GOOD, ()), 0)
        self.assertEqual(loops.share_of(GOOD, ("a",) * 9999), 1)
        self.assertEqual(loops.share_of(GOOD, ("b",) * 9999, office=1, base=1), 1)
        group = shared_group(QUIET)
        self.assertEqual(group.shares[loops.share_of(QUIET, (QUIET.offices[0][1][0],) * 10000)], 90000 % 200)
        empty = Store(3, ((("a", (1, 2, 0), (0, 0, 0)),), ()))
        self.assertIsNone(loops.share_of(empty, ("a",)))
        self.assertEqual(loops.share_of(empty, ("a",) * 3, office=1), 0)


class LoopsTest(unittest.TestCase):

    def check(self, store, office, base):
        group = shared_group(store, office=office, base=base)
        found = loops.loops(store, office=office, base=base)
        self.assertIsInstance(found, tuple)
        for run in found:
            self.assertIsInstance(run, tuple)
            self.assertLessEqual(set(run), set(names_in(store, [office])))
            self.assertLess(len(run), 2 * store.size)
            self.assertIn(done(store, base, run)[0], group.shares)
        shares = tuple(group.shares.index(done(store, base, run)[0]) for run in found)
        self.assertEqual(generated(group.table, shares), tuple(range(len(group.table))))
        homes, operations = measure(store, office=office)[0], len(store.offices[office])
        self.assertLessEqual(len(found), homes * (operations - 1) + 1)
        return homes, operations, len(group.table)

    def test_by_its_words(self):
        seen = set()
        for store in some_stores(665, 200):
            if is_reversible(store):
                for office in range(len(store.offices)):
                    for base in (0, store.size - 1):
                        homes, operations, many = self.check(store, office, base)
                        seen.add((homes, many))
                        if operations == 1:
                            self.assertTrue(is_commutative(shared_group(store, office=office, base=base).table))
        self.assertTrue({(1, 1), (1, 6), (2, 1), (2, 2), (2, 6), (3, 1), (3, 2), (1, 8)} <= seen, seen)

    def test_errors(self):
        errors_in_order(self, loops.loops, {"store": GOOD, "office": 1, "base": 1}, [
            ("office", wrong_numbers("office", 2)), ("base", wrong_numbers("base", 2)), ("store", REFUSED)])
        errors_in_order(self, loops.unlike_runs, {"store": GOOD, "office": 1, "base": 1}, [
            ("office", wrong_numbers("office", 2)), ("base", wrong_numbers("base", 2)), ("store", REFUSED)])
        errors_in_order(self, loops.check_unlike, {"store": GOOD, "value": None, "office": 1, "base": 1}, [
            ("office", wrong_numbers("office", 2)), ("base", wrong_numbers("base", 2)), ("store", REFUSED)])
        for store in many_stores(666, 100):
            if not is_unseen(store) or not is_reversible(store):
                word = "oneway" if is_unseen(store) else "seen"
                for call in (loops.loops, loops.unlike_runs):
                    self.assertEqual(error_of(self, Refused, call, store, office=1).word, word)

    def test_edges(self):
        self.assertEqual(loops.loops(Store(1, ((), ()))), ())
        self.assertEqual(loops.loops(Store(2, ((), (("b", (1, 0), (0, 0)),)))), ())
        self.check(QUIET, 0, 7)
        self.check(QUIET, 7, 199)
        self.check(pack(5), 1, 60)
        line = Store(200, ((("go", tuple((s + 1) % 200 for s in range(200)), (0,) * 200),
                            ("set", tuple((s * 7 + 5) % 200 for s in range(200)), (0,) * 200)), ()))
        self.assertEqual(self.check(line, 0, 3), (200, 2, 1))
        self.check(line, 1, 3)


class UnlikeTest(unittest.TestCase):

    def test_some_unlike_runs(self):
        found = [0, 0]
        for store in some_stores(671, 150):
            if not is_reversible(store):
                continue
            for office in range(len(store.offices)):
                for base in {0, store.size // 2, store.size - 1}:
                    value = loops.unlike_runs(store, office=office, base=base)
                    table = shared_group(store, office=office, base=base).table
                    self.assertIs(value is None, is_commutative(table))
                    found[value is None] += 1
                    if value is not None:
                        self.assertTrue(is_unlike(store, value, office, base))
                        self.assertIs(loops.check_unlike(store, value, office=office, base=base), True)
        self.assertGreater(min(found), 20)
        self.assertIs(loops.check_unlike(PACK, loops.unlike_runs(PACK)), True)

    def test_commutative(self):
        """If the table is commutative, runs that lead the base to one state lead each state of its cell to one."""
        rng = random.Random(672)
        for store in whole_stores(673, 60):
            for office, base in itertools.product(range(2), range(store.size)):
                if is_commutative(shared_group(store, office=office, base=base).table):
                    run, other = random_run(rng, store, 4, [office]), random_run(rng, store, 4, [1 - office])
                    for state in range(store.size):
                        self.assertIs(loops.check_unlike(store, (run, other, state), office=office, base=base), False)

    def test_arrangements(self):
        """Those of the cell that both sides make are as many as the shares in the centre."""
        sizes = set()
        for store in some_stores(674, 60):
            if not is_reversible(store):
                continue
            for office in range(len(store.offices)):
                group = shared_group(store, office=office)
                made = []
                for lot in ([office], others_of(store, office)):
                    rows = {group.shares}
                    while True:
                        fresh = rows | {tuple(ends[s] for s in row) for row in rows for k in lot for _, ends, _ in store.offices[k]}
                        if fresh == rows:
                            break
                        rows = fresh
                    made.append({row for row in rows if set(row) == set(group.shares)})
                self.assertEqual(len(made[0] & made[1]), len(centre(group.table)))
                sizes.add((len(group.table), len(made[0] & made[1])))
        self.assertTrue({(1, 1), (2, 2), (6, 1), (8, 2), (10, 1)} <= sizes, sizes)

    def test_one_part_changed(self):
        verdicts = [0, 0]
        for store, office, base in ((PACK, 0, 0), (PACK, 1, 4), (group_store(quaternions(), (2, 4), (2, 4)), 0, 3)):
            good = loops.unlike_runs(store, office=office, base=base)
            values = [(run, other, state) for run in self.changed_runs(good[0], store) for other in (good[1], ())
                      for state in range(store.size)]
            values += [(good[0], other, state) for other in self.changed_runs(good[1], store) for state in range(store.size)]
            for value in values:
                verdict = is_unlike(store, value, office, base)
                self.assertIs(loops.check_unlike(store, value, office=office, base=base), verdict, value)
                verdicts[verdict] += 1
        self.assertGreater(min(verdicts), 30)

    def changed_runs(self, run, store):
        for at in range(len(run) + 1):
            for name in names_in(store):
                yield run[:at] + (name,) + run[at + 1:]
                yield run[:at] + (name,) + run[at:]
            yield run[:at] + run[at + 1:]

    def test_any_value(self):
        run, other, state = loops.unlike_runs(PACK)
        self.assertIs(loops.check_unlike(store=PACK, value=(run, other, state), office=0, base=0), True)
        wrong = not_tuples() + [(), (run, other), (run, other, state, state), [run, other, state], (other, run, state)]
        wrong += [(value, other, state) for value in not_tuples()] + [(run, value, state) for value in not_tuples()]
        wrong += [(run, other, value) for value in not_numbers() + [6, 10 ** 20]]
        wrong += [(run + (item,), other, state) for item in not_names()] + [(run, (item,), state) for item in not_names()]
        wrong += [(list(run), other, state), (run, list(other), state), (Alike(), Odd(), Touchy())]
        for value in wrong:
            self.assertIs(loops.check_unlike(PACK, value), False)
        cards = Store(6, (PACK.offices[0], PACK.offices[1], ()))
        self.assertIs(loops.check_unlike(cards, (run, other, state)), True)
        self.assertIs(loops.check_unlike(cards, (run, other, state), office=1), False)
        self.assertIs(loops.check_unlike(cards, (run, other, state), office=2), False)
        self.assertIs(loops.check_unlike(PACK, (run * 2001, other * 2001, state)), len(run) % 2 == 1)

    def test_outside_the_cell(self):
        """A state that is not in the cell does not count, although two runs lead it to unlike states."""
        store = Store(4, ((("a", (1, 0, 3, 2), (0,) * 4), ("d", (2, 3, 1, 0), (0,) * 4)), (("b", (1, 0, 3, 2), (0,) * 4),)))
        self.assertTrue(is_unseen(store) and is_reversible(store))
        found = 0
        for run, other, state in itertools.product([("a",), ("d", "d"), ("d",), ()], [("b",), ()], range(4)):
            verdict = is_unlike(store, (run, other, state), 0, 0)
            self.assertIs(loops.check_unlike(store, (run, other, state)), verdict)
            unlike = done(store, state, run) != done(store, state, other)
            found += done(store, 0, run)[0] == done(store, 0, other)[0] and unlike and not verdict
        self.assertGreater(found, 0)


if __name__ == "__main__":
    unittest.main()
