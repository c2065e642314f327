"""[73], [74]: orders that explain every cut, and cuts that nothing explains."""

import itertools
import random
import unittest

from sharedunseen import orders
from sharedunseen.errors import Refused
from sharedunseen.stores import Store
from tests.sorts import all_sorts, commutes, is_reversible, is_smooth, other_answers, random_run, TABLES, whole_stores
from tests.support import Alike, Odd, Touchy, all_ops, big_store, done, error_of, errors_in_order, names_in, not_names
from tests.support import not_numbers, not_tuples, random_names, refused, wrong_states
from tests.test_homes import reach_by_words
from tests.test_islands import not_islands, some_islands
from tests.test_merges import GOOD, ROUGH

ISLANDS = [(value, ("InvalidNumber", "islands")) for value in [None] + not_islands()]
LOTS = ((0,), (1,), (2,))
ONEWAY = Store(3, ((("a", (1, 1, 1), (0, 0, 0)),), (("b", (0, 1, 2), (0, 0, 0)),), (("c", (0, 1, 2), (0, 0, 0)),)))
BOTH = Store(3, ((("a", (1, 1, 1), (0, 0, 0)),), (("b", (2, 2, 2), (0, 0, 0)),), (("c", (0, 1, 2), (0, 0, 0)),)))


def hooked_store(rng, offices, targets=None, table=None):
    """A smooth store: answers to an office depend on its own part, on that of another office, and perhaps on shares."""
    least = 1 if targets is None else 2
    parts = [rng.randrange(least, 4 if offices < 4 else 3) for _ in range(offices)]
    if table is None:
        table = rng.choice(TABLES[:4]) if rng.randrange(2) and offices < 4 else TABLES[0]
    targets = [rng.randrange(offices) for _ in parts] if targets is None else targets
    states = list(itertools.product(*[range(part) for part in parts], range(len(table))))
    order = rng.sample(range(len(states)), len(states))
    number = {state: order[k] for k, state in enumerate(states)}
    names = random_names(rng, 3 * offices)
    rows = []
    for office, part in enumerate(parts):
        row = []
        for _ in range(rng.randrange(least, 4)):
            goals = rng.sample(range(part), part) if rng.randrange(3) else [rng.randrange(part) for _ in range(part)]
            # Only two offices change the shares, so that answers of one of them hang on no third one.
            factors = [rng.randrange(len(table)) if office < 2 else 0 for _ in range(part)]
            told = {}
            ends, heard = [0] * len(states), [0] * len(states)
            for state in states:
                own, share = state[office], state[-1]
                moved = table[factors[own]][share] if office == 0 else table[share][factors[own]]
                key = (own, state[targets[office]], share if {office, targets[office]} == {0, 1} else 0)
                goal = state[:office] + (goals[own],) + state[office + 1:-1] + (moved,)
                ends[number[state]] = number[goal]
                heard[number[state]] = told.setdefault(key, rng.randrange(2))
            row.append((names.pop(), tuple(ends), tuple(heard)))
        rows.append(tuple(row))
    return Store(len(states), tuple(rows))


def smooth_stores(seed, many):
    rng = random.Random(seed)
    for k in range(many):
        if k % 3 == 0:
            yield other_answers(rng, next(whole_stores(rng.randrange(10 ** 6), 1, offices=rng.randrange(2, 4), size=16)))
        else:
            yield hooked_store(rng, rng.randrange(2, 5))


def near_by_words(store, lots, state):
    return sorted(reach_by_words(store, sorted(k for lot in lots for k in lot))[state])


def triples_by_words(store, lots, state):
    """For each pair of islands the triples by which the first one hangs on the second one."""
    ops = all_ops(store)
    found = {}
    for i, j in itertools.permutations(range(len(lots)), 2):
        for one in names_in(store, lots[i]):
            for other in names_in(store, lots[j]):
                for at in near_by_words(store, lots, state):
                    if ops[one][2][ops[other][1][at]] != ops[one][2][at]:
                        found.setdefault((i, j), []).append((one, other, at))
    return found


def is_explained(store, state, runs):
    """Whether some weaving gives the answers that each run gives alone."""
    ops = all_ops(store)
    told = [done(store, state, run)[1] for run in runs]
    todo = [((0,) * len(runs), state)]
    seen = set(todo)
    while todo:
        places, here = todo.pop()
        if list(places) == [len(run) for run in runs]:
            return True
        for k, place in enumerate(places):
            if place < len(runs[k]):
                _, ends, answers = ops[runs[k][place]]
                cell = (places[:k] + (place + 1,) + places[k + 1:], ends[here])
                if answers[here] == told[k][place] and cell not in seen:
                    seen.add(cell)
                    todo.append(cell)
    return False


class OrdersTest(unittest.TestCase):

    def test_all_orders_tried(self):
        rng = random.Random(711)
        counts = set()
        for store in smooth_stores(712, 400):
            lots = some_islands(rng, store)
            state = rng.randrange(store.size)
            pairs = triples_by_words(store, lots, state)
            hanging = tuple(tuple(j for j in range(len(lots)) if (i, j) in pairs) for i in range(len(lots)))
            self.assertEqual(orders.hanging(store, lots, state), hanging)
            fitting = [row for row in itertools.permutations(range(len(lots)))
                       if all(row.index(i) < row.index(j) for i, j in pairs)]
            self.assertEqual(orders.first_order(store, lots, state), fitting[0] if fitting else None)
            self.assertEqual(orders.count_orders(store, lots, state), len(fitting))
            self.assertIs(orders.hanging_ring(store, lots, state) is None, bool(fitting))
            counts.add((len(lots), len(fitting), bool(fitting) and fitting[0] == tuple(range(len(lots)))))
        self.assertTrue({(1, 1, True), (2, 0, False), (2, 1, True), (2, 1, False), (2, 2, True), (3, 0, False),
                         (3, 2, True), (3, 1, False), (3, 3, True), (3, 3, False), (3, 6, True), (4, 24, True)} <= counts, counts)

    def test_weavings_of_orders(self):
        """They explain all cuts from near states exactly if each island stands before all on which it hangs."""
        rng = random.Random(713)
        verdicts = [0, 0]
        for store in smooth_stores(714, 80):
            lots = some_islands(rng, store)
            state = rng.randrange(store.size)
            hanging = orders.hanging(store, lots, state)
            row = tuple(rng.sample(range(len(lots)), len(lots)))
            good = all(row.index(i) < row.index(j) for i, lot in enumerate(hanging) for j in lot)
            verdicts[good] += 1
            near = near_by_words(store, lots, state)
            explained = all(self.explains(store, at, lots, runs, row) for at in near for runs in self.short_runs(store, lots))
            self.assertIs(explained, good)
            for _ in range(20 if good else 0):
                runs = tuple(random_run(rng, store, 6, lot) for lot in lots)
                self.assertTrue(self.explains(store, rng.choice(near), lots, runs, row))
        self.assertGreater(min(verdicts), 15)

    def short_runs(self, store, lots):
        """Runs of two islands with one operation each."""
        for i, j in itertools.permutations(range(len(lots)), 2):
            for one, other in itertools.product(names_in(store, lots[i]), names_in(store, lots[j])):
                yield tuple((one,) if k == i else (other,) if k == j else () for k in range(len(lots)))

    def explains(self, store, state, lots, runs, row):
        for k in row:
            told = done(store, state, sum((runs[j] for j in row[:row.index(k)]), ()) + runs[k])[1]
            if told[len(told) - len(runs[k]):] != done(store, state, runs[k])[1]:
                return False
        return True

    def test_errors(self):
        for call in (orders.hanging, orders.first_order, orders.count_orders, orders.hanging_ring):
            errors_in_order(self, call, {"store": GOOD, "islands": LOTS, "state": 1}, [
                ("islands", ISLANDS), ("state", wrong_states(3)), ("store", refused("ends", ROUGH, BOTH))])
            call(ONEWAY, LOTS, 0)
        for store in all_sorts(715, 150):
            if not is_smooth(store):
                for call in (orders.hanging, orders.first_order, orders.count_orders, orders.hanging_ring, orders.unexplained):
                    self.assertEqual(error_of(self, Refused, call, store, ((0,),), 0).word, "ends")

    def test_edges(self):
        one = Store(1, ((), ()))
        self.assertEqual(orders.hanging(one, ((0,), (1,)), 0), ((), ()))
        self.assertEqual((orders.first_order(one, ((1,),), 0), orders.count_orders(one, ((0, 1),), 0)), ((0,), 1))
        self.assertIsNone(orders.hanging_ring(one, ((0, 1),), 0))
        eight = Store(1, ((),) * 8)
        lots = tuple((k,) for k in range(8))
        self.assertEqual((orders.count_orders(eight, lots, 0), orders.first_order(eight, lots, 0)), (40320, tuple(range(8))))
        store = big_store()
        self.assertEqual(orders.count_orders(store, lots, 0), 0)
        self.assertEqual(len(orders.hanging_ring(store, lots, 7)), 2)
        self.assertEqual(orders.hanging(store, ((7, ), (0,)), 3)[0], (1,))

    def test_near_states_alone(self):
        """What changes an answer at a state that no island reaches does not count."""
        store = Store(4, ((("see", (0, 1, 2, 3), (0, 0, 0, 1)),), (("flip", (1, 0, 3, 2), (0,) * 4),),
                          (("over", (2, 3, 0, 1), (0,) * 4),)))
        self.assertEqual(orders.hanging(store, ((0,), (1,)), 0), ((), ()))
        self.assertEqual(orders.hanging(store, ((0,), (1,)), 2), ((1,), ()))
        self.assertEqual(orders.hanging(store, ((0,), (1,), (2,)), 0), ((1, 2), (), ()))
        self.assertEqual(orders.hanging(store, ((1,), (0,), (2,)), 0), ((), (0, 2), ()))
        self.assertEqual(orders.first_order(store, ((1,), (0,), (2,)), 0), (1, 0, 2))


class RingTest(unittest.TestCase):

    def is_ring(self, pairs, value):
        """Whether a tuple of triples of plain kinds is a ring."""
        places = [[pair for pair, triples in pairs.items() if triple in triples] for triple in value]
        if not value or [] in places:
            return False
        return all(one[0][1] == other[0][0] for one, other in zip(places, places[1:] + places[:1]))

    def test_fewest_triples(self):
        rng = random.Random(721)
        sizes = set()
        stores = [hooked_store(rng, 3, [1, 2, 0]) for _ in range(40)] + [hooked_store(rng, 4, [1, 2, 3, 0]) for _ in range(40)]
        for store in list(smooth_stores(722, 150)) + stores:
            lots = some_islands(rng, store) if rng.randrange(2) else tuple((k,) for k in range(len(store.offices)))
            state = rng.randrange(store.size)
            pairs = triples_by_words(store, lots, state)
            ring = orders.hanging_ring(store, lots, state)
            rows = [row for many in range(2, len(lots) + 1) for row in itertools.permutations(range(len(lots)), many)
                    if all(pair in pairs for pair in zip(row, row[1:] + row[:1]))]
            self.assertIs(ring is None, not rows)
            sizes.add(len(rows[0]) if rows else None)
            if rows:
                self.assertEqual(len(ring), len(rows[0]))
                self.assertTrue(self.is_ring(pairs, ring))
                self.assertIs(orders.check_ring(store, lots, state, ring), True)
                self.assertIs(orders.check_ring(store, lots, state, ring[1:] + ring[:1]), True)
                self.assertIs(orders.check_ring(store, lots, state, ring + ring), True)
                self.assertIs(orders.check_ring(store, lots, state, ring[:1]), False)
        self.assertTrue({None, 2, 3, 4} <= sizes, sizes)

    def test_rings_of_several_lengths(self):
        """Each office turns a bit of its own and may ask for the bits of others, whatever these are."""
        rng = random.Random(725)
        sizes = {}
        for _ in range(150):
            pairs = [pair for pair in itertools.permutations(range(4), 2) if rng.randrange(3) == 0]
            rows = []
            for k in range(4):
                row = [("abcd"[k], tuple(s ^ 1 << k for s in range(16)), (0,) * 16)]
                row += [("abcd"[i] + "abcd"[j], tuple(range(16)), tuple(s >> j & 1 for s in range(16))) for i, j in pairs if i == k]
                rows.append(tuple(row))
            store, lots = Store(16, tuple(rows)), ((0,), (1,), (2,), (3,))
            ring = orders.hanging_ring(store, lots, rng.randrange(16))
            found = [row for many in range(2, 5) for row in itertools.permutations(range(4), many)
                     if all(pair in pairs for pair in zip(row, row[1:] + row[:1]))]
            self.assertEqual(ring and len(ring), len(found[0]) if found else None)
            lengths = sorted({len(row) for row in found})
            sizes[tuple(lengths)] = sizes.get(tuple(lengths), 0) + 1
        self.assertTrue(all(sizes.get(key, 0) > 1 for key in ((), (2,), (2, 3), (3,))), sizes)

    def test_one_part_changed(self):
        rng = random.Random(723)
        verdicts = [0, 0]
        for store in smooth_stores(724, 60):
            lots = some_islands(rng, store)
            state = rng.randrange(store.size)
            ring = orders.hanging_ring(store, lots, state)
            if ring is None:
                continue
            pairs = triples_by_words(store, lots, state)
            for value in self.changed(store, ring):
                good = self.is_ring(pairs, value)
                self.assertIs(orders.check_ring(store, lots, state, value), good)
                verdicts[good] += 1
        self.assertGreater(min(verdicts), 50)

    def changed(self, store, ring):
        for at, triple in enumerate(ring):
            fresh = [(name,) + triple[1:] for name in names_in(store)]
            fresh += [(triple[0], name, triple[2]) for name in names_in(store)]
            fresh += [triple[:2] + (state,) for state in range(store.size)]
            for other in fresh:
                yield ring[:at] + (other,) + ring[at + 1:]
                yield ring[:at] + (other,) + ring[at:]
            yield ring[:at] + ring[at + 1:]

    def test_any_value(self):
        text = (("seta", (2, 3, 2, 3), (0,) * 4), ("seea", (0, 1, 2, 3), (0, 1, 0, 1)))
        store = Store(4, (text, (("setb", (1, 1, 3, 3), (0,) * 4), ("seeb", (0, 1, 2, 3), (0, 0, 1, 1)))))
        lots = ((0,), (1,))
        ring = (("seea", "setb", 0), ("seeb", "seta", 1))
        self.assertIs(orders.check_ring(store=store, islands=lots, state=0, value=ring), True)
        self.assertIs(orders.check_ring(store, lots, 1, ring), False)
        wrong = not_tuples() + [(), ring[:1], list(ring), ring[::-1] + ring[:1], (ring,), ring[0], (ring[0], list(ring[1]))]
        wrong += [(ring[0], value) for value in not_tuples() + [(), ring[1][:2], ring[1] + (0,)]]
        for item in not_names() + ["zzz"]:
            wrong += [(ring[0], (item,) + ring[1][1:]), (ring[0], ("seeb", item, 1))]
        wrong += [(ring[0], ("seeb", "seta", item)) for item in not_numbers() + [4, 10 ** 20]]
        wrong += [(Alike(), Odd()), (Touchy(),), (ring[0], ("seea", "seta", 0)), (("seea", "setb", 1), ring[1])]
        for value in wrong:
            self.assertIs(orders.check_ring(store, lots, 0, value), False)
        errors_in_order(self, orders.check_ring, {"store": GOOD, "islands": LOTS, "state": 1, "value": None}, [
            ("islands", ISLANDS), ("state", wrong_states(3)), ("store", refused("ends", ROUGH, BOTH))])


class UnexplainedTest(unittest.TestCase):

    def test_exactly_if_there_is_a_ring(self):
        rng = random.Random(731)
        found = {}
        stores = [hooked_store(rng, 3, [1, 2, 0]) for _ in range(150)] + [hooked_store(rng, 4, [1, 2, 3, 0]) for _ in range(60)]
        stores += [hooked_store(rng, 2, [1, 0], table) for table in TABLES for _ in range(25)]
        stores += [hooked_store(rng, 3, [1, 0, 2]) for _ in range(60)]
        for store in list(smooth_stores(732, 150)) + stores:
            if not is_reversible(store):
                continue
            lots = some_islands(rng, store) if rng.randrange(2) else tuple((k,) for k in range(len(store.offices)))
            state = rng.randrange(store.size)
            hanging = orders.hanging(store, lots, state)
            if max(len(lot) for lot in hanging) > 1:
                self.assertEqual(error_of(self, Refused, orders.unexplained, store, lots, state).word, "several")
                continue
            value = orders.unexplained(store, lots, state)
            ring = orders.hanging_ring(store, lots, state)
            self.assertIs(value is None, ring is None)
            if len(lots) == 2:
                self.assertIs(value is None, not (hanging[0] and hanging[1]))
            found[ring and len(ring)] = found.get(ring and len(ring), 0) + 1
            if value is not None:
                self.check(store, lots, state, value)
            else:
                for _ in range(10):
                    runs = tuple(random_run(rng, store, 4, lot) for lot in lots)
                    self.assertTrue(is_explained(store, rng.choice(near_by_words(store, lots, state)), runs))
        self.assertTrue(all(found[many] > 10 for many in (None, 2, 3)), found)
        self.assertGreater(found[4], 3)

    def check(self, store, lots, state, value):
        near, runs = value
        self.assertIsInstance(value, tuple)
        self.assertIsInstance(runs, tuple)
        self.assertIn(near, near_by_words(store, lots, state))
        self.assertEqual(len(runs), len(lots))
        for run, lot in zip(runs, lots):
            self.assertIsInstance(run, tuple)
            self.assertLessEqual(set(run), set(names_in(store, lot)))
            self.assertLessEqual(len(run), store.size)
        self.assertFalse(is_explained(store, near, runs))

    def test_errors(self):
        several = Store(3, ((("a", (1, 2, 0), (0, 1, 2)),), (("b", (2, 0, 1), (0, 0, 1)),), (("c", (1, 2, 0), (0, 0, 0)),)))
        lone = Store(3, ((("a", (1, 1, 1), (0, 1, 2)),), (("b", (0, 1, 2), (0, 0, 1)),), (("c", (0, 1, 2), (0, 1, 0)),)))
        errors_in_order(self, orders.unexplained, {"store": GOOD, "islands": LOTS, "state": 1}, [
            ("islands", ISLANDS), ("state", wrong_states(3)), ("store", refused("ends", ROUGH, BOTH)),
            ("store", refused("oneway", ONEWAY, lone)), ("store", refused("several", several))])

    def test_edges(self):
        self.assertIsNone(orders.unexplained(Store(1, ((), ())), ((0,), (1,)), 0))
        self.assertIsNone(orders.unexplained(GOOD, ((0, 1, 2),), 2))
        bits = Store(4, ((("a", (2, 3, 0, 1), (0, 1, 0, 1)),), (("b", (1, 0, 3, 2), (0, 0, 1, 1)),)))
        self.check(bits, ((1,), (0,)), 3, orders.unexplained(store=bits, islands=((1,), (0,)), state=3))
        size = 14
        states = list(itertools.product(range(size), repeat=2))
        step = tuple(states.index(((p + 1) % size, q)) for p, q in states)
        by = tuple(states.index((p, (q + 1) % size)) for p, q in states)
        told = tuple(int(p == 5 and q == 9) for p, q in states)
        wide = Store(size * size, ((("a", step, told),), (("b", by, told),)))
        self.check(wide, ((0,), (1,)), 17, orders.unexplained(wide, ((0,), (1,)), 17))


if __name__ == "__main__":
    unittest.main()
