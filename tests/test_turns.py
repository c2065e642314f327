"""[77], [78]: turns, and stores with any turns."""

import itertools
import random
import unittest

from sharedunseen import turns
from sharedunseen.errors import InvalidNumber, InvalidRun, Refused
from sharedunseen.groups import check_table, is_matching
from sharedunseen.many import core_group, cores
from sharedunseen.stores import Store
from tests.sorts import commutes, is_reversible, is_unseen, random_run, turned_store, whole_stores
from tests.support import Alike, big_store, done, error_of, errors_in_order, names_in, not_tuples, refused, wrong_numbers, wrong_runs
from tests.test_groups import SMALL, both, orders, ring
from tests.test_joins import BOTH_THREE, GOOD, ONEWAY_THREE, REFUSED, SEEN_THREE
from tests.test_shared import BOTH, ONEWAY, SEEN

COMMUTATIVE = [table for table in SMALL if commutes(table)]
FOUR = both(ring(2), ring(2))


def matchings_of(table):
    """All matchings of a small table with itself, ascending."""
    rest = range(1, len(table))
    return [(0,) + row for row in itertools.permutations(rest) if is_matching(table, table, (0,) + row)]


def group_by_words(matchings, size):
    """What comes of any number of matchings, one behind another, ascending."""
    found = {tuple(range(size))}
    while True:
        fresh = found | {tuple(x[share] for share in row) for row in found for x in matchings}
        if fresh == found:
            return sorted(found)
        found = fresh


def turning_by_words(table, shares, matchings, many):
    """The store of [78]."""
    n = len(table)
    group = group_by_words(matchings, n)
    states = list(itertools.product(*[range(len(group))] * (many - 1), range(n)))
    number = {state: k for k, state in enumerate(states)}

    def inverse(row):
        return tuple(row.index(k) for k in range(n))

    def followed(one, other):
        return tuple(other[k] for k in one)

    offices = []
    for office in range(many):
        row = []
        for at, c in enumerate(shares):
            ends = []
            for state in states:
                factor = c if office == 0 else inverse(group[state[office - 1]])[c]
                ends.append(number[state[:-1] + (table[state[-1]][factor],)])
            row.append(("abcdefgh"[office] + "s" + "abcdefghijklmn"[at], tuple(ends), (0,) * len(states)))
        for at, x in enumerate(matchings):
            ends = []
            for state in states:
                gs = [group[k] for k in state[:-1]]
                w = state[-1]
                if office == 0:
                    gs, w = [followed(inverse(x), g) for g in gs], x[w]
                else:
                    gs[office - 1] = followed(gs[office - 1], x)
                ends.append(number[tuple(group.index(g) for g in gs) + (w,)])
            row.append(("abcdefgh"[office] + "t" + "abcdefghijklmn"[at], tuple(ends), (0,) * len(states)))
        offices.append(tuple(row))
    return Store(len(states), tuple(offices))


def some_turning_store(rng):
    """A table, some shares and matchings, and a number of offices, for a store that is not too large."""
    while True:
        table = rng.choice(COMMUTATIVE)
        every = matchings_of(table)
        matchings = tuple(rng.choice(every) for _ in range(rng.randrange(3)))
        shares = tuple(rng.randrange(len(table)) for _ in range(rng.randrange(3)))
        many = rng.choice((3, 3, 3, 4, 8))
        group = group_by_words(matchings, len(table))
        if len(table) * len(group) ** (many - 1) <= 200 and many * (len(shares) + len(matchings)) <= 40:
            return table, shares, matchings, many, group


def stores(seed, number):
    rng = random.Random(seed)
    yield from whole_stores(seed, number, offices=3, size=16)
    yield from whole_stores(seed + 1, number // 3, offices=4, most=2, size=16)
    for _ in range(4):
        yield turned_store(rng)
    for _ in range(number):
        table, shares, matchings, many, _ = some_turning_store(rng)
        store = turning_by_words(table, shares, matchings, many)
        if is_reversible(store) and store.size < 80:
            yield store


def turns_by_words(store, base):
    """The turns of all rows of images of the core."""
    group = core_group(store, base=base)
    core = cores(store)
    rows, todo = {group.shares}, [group.shares]
    while todo:
        row = todo.pop()
        for office in store.offices:
            for _, ends, _ in office:
                fresh = tuple(ends[s] for s in row)
                if fresh not in rows:
                    rows.add(fresh)
                    todo.append(fresh)
    return tuple(sorted({turn_by_words(group, row) for row in rows if core[row[0]] == core[base]}))


def turn_by_words(group, row):
    """In place k the share j such that row[k] has the share of the product of j and that of the first state."""
    z = group.shares.index(row[0])
    found = []
    for state in row:
        share = group.shares.index(state)
        found.append(next(j for j in range(len(group.table)) if group.table[j][z] == share))
    return tuple(found)


class TurnsTest(unittest.TestCase):

    def test_by_their_words(self):
        rng = random.Random(1071)
        seen = {}
        for store in stores(1072, 40):
            base = rng.randrange(store.size)
            told = turns.turns(store, base=base)
            self.assertEqual(told, turns_by_words(store, base))
            group = core_group(store, base=base)
            for turn in told:
                self.assertTrue(is_matching(group.table, group.table, turn))
            self.assertEqual(turns.turns(store), turns.turns(store, base=0))
            n, t = len(group.table), len(told)
            self.assertEqual(store.size % (n * t ** (len(store.offices) - 1)), 0)
            seen[(n, t)] = seen.get((n, t), 0) + 1
        self.assertTrue({(1, 1), (2, 1), (3, 1), (3, 2), (4, 1), (4, 2)} <= set(seen), seen)

    def test_turn_of(self):
        rng = random.Random(1073)
        found = {}
        for store in stores(1074, 40):
            core = cores(store)
            base = rng.randrange(store.size)
            group = core_group(store, base=base)
            every = turns.turns(store, base=base)
            for _ in range(6):
                run = random_run(rng, store, 8)
                row = tuple(done(store, s, run)[0] for s in group.shares)
                told = turns.turn_of(store, run, base=base)
                if core[row[0]] != core[base]:
                    self.assertIsNone(told)
                    found[None] = found.get(None, 0) + 1
                    continue
                self.assertEqual(told, turn_by_words(group, row))
                self.assertIn(told, every)
                still = told == tuple(range(len(told)))
                if len({store.office_of(name) for name in run}) < len(store.offices):
                    self.assertTrue(still)
                found[still] = found.get(still, 0) + 1
        self.assertTrue(all(found.get(key, 0) > 5 for key in (None, False, True)), found)

    def test_errors(self):
        two = refused("offices", SEEN, ONEWAY, BOTH, Store(2, ((), ())))
        base = ("base", wrong_numbers("base", 2))
        errors_in_order(self, turns.turns, {"store": GOOD, "base": 1}, [
            base, ("store", two + refused("seen", SEEN_THREE, BOTH_THREE)), ("store", refused("oneway", ONEWAY_THREE))])
        errors_in_order(self, turns.turn_of, {"store": GOOD, "run": ("a", "b", "a", "b"), "base": 1}, [
            base, ("store", two + REFUSED), ("run", wrong_runs("a", "d"))])
        self.assertEqual(error_of(self, InvalidRun, turns.turn_of, GOOD, None).at, -1)

    def test_edges(self):
        one = Store(1, ((), (), ()))
        self.assertEqual((turns.turns(store=one), turns.turn_of(store=one, run=(), base=0)), (((0,),), (0,)))
        quiet = Store(200, tuple(tuple((n, e, (0,) * 200) for n, e, _ in row) for row in big_store().offices))
        self.assertEqual(turns.turns(quiet, base=77), (tuple(range(25)),))
        names = tuple(names_in(quiet))
        self.assertEqual(turns.turn_of(quiet, (names * 250)), tuple(range(25)))
        self.assertIsNone(turns.turn_of(quiet, names * 249 + names[:2]))


class TurningStoreTest(unittest.TestCase):

    def test_by_its_words(self):
        rng = random.Random(1081)
        seen = {}
        for _ in range(150):
            table, shares, matchings, many, group = some_turning_store(rng)
            store = turns.turning_store(table, shares, matchings, many=many)
            self.assertEqual(store, turning_by_words(table, shares, matchings, many))
            if many == 3:
                self.assertEqual(turns.turning_store(table, shares, matchings), store)
            self.assertTrue(is_unseen(store))
            images = {row[share] for row in group for share in shares} | {0}
            while True:
                fresh = images | {table[i][j] for i in images for j in images}
                if fresh == images:
                    break
                images = fresh
            whole = len(images) == len(table)
            self.assertIs(is_reversible(store), whole)
            if whole:
                told = core_group(store)
                self.assertEqual((told.table, told.shares), (table, tuple(range(len(table)))))
                self.assertEqual(turns.turns(store), tuple(group))
            key = (whole, len(group), many)
            seen[key] = seen.get(key, 0) + 1
        self.assertTrue({(True, 1, 8), (True, 2, 3), (True, 2, 4), (False, 2, 3)} <= set(seen), seen)

    def test_errors(self):
        bad = [(value, ("InvalidNumber", "share")) for value in not_tuples() + [(4,), (-1,), (0, True), (0, None), ("0",), [1]]]
        tables = refused("table", orders(3))
        wrong = not_tuples() + [((0, 1, 2),), ((0, 1, 2, 3, 4),), ((0, 1, 1, 3),), ((1, 0, 3, 2),), [(0, 1, 2, 3)], ((0, 1, 2, True),)]
        wrong += [(value,) for value in not_tuples()] + [((0, 2, 1, 3), (0, 1, 2, 4)), ([0, 1, 2, 3],), (Alike(),)]
        good = {"table": FOUR, "shares": (1, 2, 3), "matchings": ((0, 2, 1, 3),), "many": 3}
        errors_in_order(self, turns.turning_store, good, [
            ("table", tables), ("shares", bad), ("matchings", refused("matchings", *wrong)),
            ("many", wrong_numbers("many", 2, 1, 0, 9, 10 ** 20)), ("many", refused("size", 8, 7)),
            ("shares", refused("operations", (1,) * 13, (0,) * 40))])
        self.assertEqual(error_of(self, InvalidNumber, turns.turning_store, ring(2), (2,), None).word, "share")
        self.assertEqual(error_of(self, Refused, turns.turning_store, orders(3), None, None, many=None).word, "table")
        for matching in matchings_of(FOUR):
            call = (turns.turning_store, ring(4), (1,), (matching,))
            if matching in matchings_of(ring(4)):
                self.assertEqual(turns.turning_store(*call[1:]).size, 16 if matching[1] == 3 else 4)
            else:
                self.assertEqual(error_of(self, Refused, *call).word, "matchings")

    def test_edges(self):
        self.assertEqual(turns.turning_store(((0,),), (), ()), Store(1, ((), (), ())))
        self.assertEqual(turns.turning_store(table=((0,),), shares=(), matchings=((0,),), many=8).names(),
                         ("ata", "bta", "cta", "dta", "eta", "fta", "gta", "hta"))
        wide = turns.turning_store(ring(200), (1, 7), ())
        self.assertEqual((wide.size, wide.operation("csb")[1][:2]), (200, (7, 8)))
        self.assertEqual(turns.turns(wide), (tuple(range(200)),))
        eight = both(ring(2), FOUR)
        self.assertIsNone(check_table(eight))
        self.assertEqual(turns.turning_store(ring(50), (1,), ((0,) + tuple(range(49, 0, -1)),)).size, 200)
        self.assertEqual(error_of(self, Refused, turns.turning_store, ring(51), (1,), ((0,) + tuple(range(50, 0, -1)),)).word, "size")
        self.assertEqual(len(turns.turning_store(ring(3), (1,) * 12, ((0, 2, 1),)).names()), 39)
        self.assertEqual(len(turns.turning_store(ring(5), (1,) * 5, (), many=8).names()), 40)
        self.assertEqual(error_of(self, Refused, turns.turning_store, ring(5), (1,) * 6, (), many=8).word, "operations")
        self.assertEqual(turns.turning_store(ring(8), (1,), ((0, 3, 6, 1, 4, 7, 2, 5), (0, 5, 2, 7, 4, 1, 6, 3))).size, 128)
        # All orders of the basis and more: these matchings come to far too many.
        sums = both(FOUR, both(FOUR, both(FOUR, ring(2))))
        turned = tuple(share for share in range(128))
        self.assertIs(is_matching(sums, sums, turned), True)
        bits = [[share >> k & 1 for k in range(7)] for share in range(128)]
        self.assertTrue(all(sums[i][j] == i ^ j for i in range(128) for j in range(128)))
        round_ = tuple(sum(row[k - 1] << k for k in range(7)) for row in bits)
        add = tuple(sum((row[k] ^ (row[1] if k == 0 else 0)) << k for k in range(7)) for row in bits)
        self.assertEqual(error_of(self, Refused, turns.turning_store, sums, (1,), (round_, add)).word, "size")


if __name__ == "__main__":
    unittest.main()
