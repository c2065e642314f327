"""[79], [80]: sums, and offices that reach all states alone."""

import itertools
import random
import unittest

from sharedunseen import sums
from sharedunseen.cards import group_store, pack
from sharedunseen.errors import Refused
from sharedunseen.groups import centre, check_table, generated, is_commutative
from sharedunseen.homes import homes, joint_homes
from sharedunseen.many import commons, cores
from sharedunseen.shared import shared_group
from sharedunseen.stores import Store
from sharedunseen.sums import Bent, Sum
from sharedunseen.turns import turning_store, turns
from tests.sorts import TABLES, all_sorts, is_reversible, is_unseen, turned_store, whole_stores
from tests.support import Alike, Odd, Touchy, big_store, done, error_of, errors_in_order, names_in, not_names, not_numbers
from tests.support import not_tuples, refused, wrong_numbers
from tests.test_groups import both, dihedral, mixed, orders, quaternions, ring
from tests.test_homes import reach_by_words
from tests.test_joins import GOOD, REFUSED
from tests.test_shared import BOTH, ONEWAY, SEEN, others_of
from tests.test_turns import some_turning_store

PARTS = ("parts", "shares", "table", "adds")


def stores(seed, number):
    rng = random.Random(seed)
    yield from whole_stores(seed, number)
    yield from whole_stores(seed + 1, number // 2, offices=3, size=16)
    yield from whole_stores(seed + 2, number // 4, offices=4, most=2, size=16)
    for _ in range(number // 4):
        yield turned_store(rng)
    for _ in range(number):
        table, shares, matchings, many, _ = some_turning_store(rng)
        store = turning_store(table, shares, matchings, many=many)
        if is_reversible(store) and store.size < 40:
            yield store
    yield from (pack(3), group_store(quaternions(), (2, 4), (2, 4)), group_store(dihedral(5), (1, 5), (1, 5)))


def is_sum_by_words(store, told):
    """Whether attributes of plain kinds are a sum of the store, by [79]."""
    parts, shares, table = told["parts"], told["shares"], told["table"]
    if parts != cores(store) or not is_commutative(table):
        return False
    pairs = sorted(zip(parts, shares))
    if pairs != [(part, share) for part in range(max(parts) + 1) for share in range(len(table))]:
        return False
    if sorted(told["adds"]) != names_in(store):
        return False
    for row in store.offices:
        for name, ends, _ in row:
            added = told["adds"][name]
            if len(added) != max(parts) + 1:
                return False
            for state, end in enumerate(ends):
                part, share = added[parts[state]]
                if parts[end] != part or shares[end] != table[shares[state]][share]:
                    return False
    return True


def is_bent_by_words(store, run, state, other, core=None):
    core = core or cores(store)
    return done(store, state, run)[0] == state and core[other] == core[state] and done(store, other, run)[0] != other


class SumTest(unittest.TestCase):

    def test_by_its_words(self):
        seen = {}
        for store in stores(1091, 60):
            told = sums.sum_of(store)
            if len(store.offices) == 2:
                plain = is_commutative(shared_group(store).table)
            else:
                every = turns(store)
                plain = every == (tuple(range(len(every[0]))),)
            self.assertIs(told.__class__, Sum if plain else Bent)
            if plain:
                self.assertIsNone(check_table(told.table))
                self.assertTrue(is_sum_by_words(store, vars(told)))
                self.assertEqual(set(vars(told)), set(PARTS))
            else:
                self.assertTrue(is_bent_by_words(store, told.run, told.state, told.other))
                self.assertIsInstance(told.run, tuple)
            self.assertIs(sums.check_sum(store, told), True)
            key = (len(store.offices) == 2, plain, commons(store) == cores(store))
            seen[key] = seen.get(key, 0) + 1
            if plain and commons(store) == cores(store):
                for office, row in enumerate(store.offices):
                    view = joint_homes(store, tuple(others_of(store, office)))
                    for name, _, _ in row:
                        added = {(view[s], told.adds[name][told.parts[s]][1]) for s in range(store.size)}
                        self.assertEqual(len(added), max(view) + 1)
        self.assertTrue(all(seen.get(key, 0) > 3 for key in [
            (True, True, True), (True, False, True), (False, True, True), (False, True, False), (False, False, False)]), seen)

    def test_one_part_changed(self):
        verdicts = [0, 0]
        for store in stores(1092, 12):
            told = sums.sum_of(store)
            if isinstance(told, Bent):
                continue
            good = vars(told)
            n = len(told.table)
            changed = []
            for part in ("parts", "shares"):
                for at in range(store.size):
                    for item in range(max(n, max(told.parts) + 1)):
                        changed.append({**good, part: good[part][:at] + (item,) + good[part][at + 1:]})
            for share in range(n):
                changed.append({**good, "shares": tuple(told.table[share][k] for k in told.shares)})
            for name, row in told.adds.items():
                for at, (part, share) in enumerate(row):
                    for pair in [(part, k) for k in range(n)] + [(k, share) for k in range(max(told.parts) + 1)]:
                        changed.append({**good, "adds": {**told.adds, name: row[:at] + (pair,) + row[at + 1:]}})
            changed.append({**good, "adds": dict(reversed(list(told.adds.items())))})
            for value in changed:
                fits = max(value["shares"]) < n and is_sum_by_words(store, value)
                self.assertIs(sums.check_sum(store, Sum(**value)), fits)
                verdicts[fits] += 1
        self.assertGreater(min(verdicts), 50)

    def test_bent(self):
        rng = random.Random(1093)
        verdicts = [0, 0]
        for store in stores(1094, 20):
            told = sums.sum_of(store)
            if isinstance(told, Sum):
                for _ in range(5):
                    run = tuple(rng.choice(names_in(store)) for _ in range(6)) if names_in(store) else ()
                    value = Bent(run, rng.randrange(store.size), rng.randrange(store.size))
                    self.assertIs(sums.check_sum(store, value), False)
                continue
            core = cores(store)
            states = rng.sample(range(store.size), min(store.size, 10))
            for run in [told.run, told.run[1:], told.run + told.run, told.run + names_in_one(store), ()]:
                for state, other in itertools.product(states, repeat=2):
                    fits = is_bent_by_words(store, run, state, other, core)
                    self.assertIs(sums.check_sum(store, Bent(run, state, other)), fits)
                    verdicts[fits] += 1
        self.assertGreater(min(verdicts), 50)

    def test_any_value(self):
        store = Store(4, ((("a", (1, 0, 3, 2), (0,) * 4),), (("b", (1, 0, 3, 2), (0,) * 4),),
                          (("c", (2, 3, 0, 1), (0,) * 4), ("d", (1, 0, 2, 3), (0,) * 4))))
        told = sums.sum_of(store)
        good = vars(told)
        self.assertIs(sums.check_sum(store=store, value=Sum(**good)), True)
        items = not_numbers() + [4, 10 ** 20]
        wrong = []
        for part in ("parts", "shares", "table"):
            rows = not_tuples() + [(), good[part][:-1], good[part] + good[part][:1], list(good[part])]
            rows += [good[part][:-1] + (item,) for item in items]
            wrong += [{**good, part: row} for row in rows]
        wrong += [{**good, "table": table} for table in (ring(3), orders(3), tuple(list(row) for row in told.table), ring(8))]
        wrong += [{**good, "adds": value} for value in not_tuples() + [(), ("a", "b", "c")]]
        for name, row in told.adds.items():
            rows = not_tuples() + [(), row[:-1], row + row[:1], list(row)] + [row[:-1] + (item,) for item in not_tuples() + [(), (0,), (0, 0, 0)]]
            rows += [row[:-1] + ((item, row[-1][1]),) for item in items] + [row[:-1] + ((row[-1][0], item),) for item in items]
            wrong += [{**good, "adds": {**told.adds, name: value}} for value in rows]
            wrong.append({**good, "adds": {key: value for key, value in told.adds.items() if key != name}})
            wrong.append({**good, "adds": {(key if key != name else Alike(key)): value for key, value in told.adds.items()}})
        wrong.append({**good, "adds": {**told.adds, "d": told.adds["a"]}})
        for value in wrong:
            self.assertIs(sums.check_sum(store, Sum(**value)), False, value)
        for value in not_tuples() + [good, tuple(good.values()), Sum(None, None, None, None), Sum(Odd(), Alike(), Touchy(), {})]:
            self.assertIs(sums.check_sum(store, value), False)
        cards = pack(3)
        bent = sums.sum_of(cards)
        self.assertIs(sums.check_sum(cards, Bent(run=bent.run, state=bent.state, other=bent.other)), True)
        wrong = [(value, bent.state, bent.other) for value in not_tuples() + [list(bent.run)]]
        wrong += [(bent.run + (item,), bent.state, bent.other) for item in not_names() + ["zzz"]]
        wrong += [(bent.run, item, bent.other) for item in not_numbers() + [6, 10 ** 20]]
        wrong += [(bent.run, bent.state, item) for item in not_numbers() + [6, 10 ** 20]]
        for value in wrong:
            self.assertIs(sums.check_sum(cards, Bent(*value)), False)

    def test_each_share_once(self):
        """Shares that leave some out are no sum, nor a table with further ones, although the operations do as is told."""
        store = Store(2, ((("a", (1, 0), (0, 0)),), (("b", (1, 0), (0, 0)),)))
        told = sums.sum_of(store)
        still = {name: ((0, 0),) for name in "ab"}
        self.assertIs(sums.check_sum(store, told), True)
        self.assertIs(sums.check_sum(store, Sum((0, 0), (0, 0), told.table, still)), False)
        self.assertIs(sums.check_sum(store, Sum((0, 0), told.shares, both(ring(2), ring(2)), told.adds)), False)
        self.assertIs(sums.check_sum(store, Sum((0, 0), (1, 0), told.table, told.adds)), True)

    def test_seen_stores(self):
        """A store that is seen has no sum, even if its answers alone clash."""
        for store in stores(1096, 15):
            told = sums.sum_of(store)
            rows = [tuple((name, ends, tuple(range(store.size))) for name, ends, _ in row) for row in store.offices]
            seen = Store(store.size, tuple(rows))
            if not is_unseen(seen):
                self.assertIs(sums.check_sum(store, told), True)
                self.assertIs(sums.check_sum(seen, told), False)

    def test_noncommutative(self):
        """A table that is not commutative is no table of a sum, whatever the operations do."""
        store = Store(6, ((), ()))
        self.assertIs(sums.check_sum(store, Sum((0,) * 6, tuple(range(6)), orders(3), {})), False)
        cards = pack(3)
        group = shared_group(cards)
        adds = {name: ((0, group.shares.index(cards.operation(name)[1][0])),) for name in cards.names()}
        self.assertIs(sums.check_sum(cards, Sum((0,) * 6, group.shares, group.table, adds)), False)

    def test_errors(self):
        bad = REFUSED + refused("seen", SEEN, BOTH) + refused("oneway", ONEWAY)
        errors_in_order(self, sums.sum_of, {"store": GOOD}, [("store", bad)])
        for store in [store for store, _ in bad] + list(all_sorts(1095, 60)):
            if not is_unseen(store) or not is_reversible(store):
                self.assertEqual(error_of(self, Refused, sums.sum_of, store).word, "oneway" if is_unseen(store) else "seen")
                adds = {name: ((0, 0),) * store.size for name in store.names()}
                for value in (Sum(tuple(range(store.size)), (0,) * store.size, ((0,),), adds), Bent((), 0, 0), None):
                    self.assertIs(sums.check_sum(store, value), False)
                for run, other in itertools.product([(name,) for name in store.names()], range(store.size)):
                    self.assertIs(sums.check_sum(store, Bent(run, 0, other)), False)

    def test_edges(self):
        for offices in (2, 3, 8):
            one = Store(1, ((),) * offices)
            self.assertEqual(vars(sums.sum_of(store=one)), {"parts": (0,), "shares": (0,), "table": ((0,),), "adds": {}})
        quiet = Store(200, tuple(tuple((n, e, (0,) * 200) for n, e, _ in row) for row in big_store().offices))
        told = sums.sum_of(quiet)
        self.assertTrue(is_sum_by_words(quiet, vars(told)))
        self.assertIs(sums.check_sum(quiet, told), True)
        turn = tuple((s + 1) % 200 for s in range(200))
        wide = Store(200, tuple(((name, turn, (0,) * 200),) for name in "abcdefgh"))
        self.assertTrue(is_sum_by_words(wide, vars(sums.sum_of(wide))))
        for store in (group_store(dihedral(100), (1, 100), (1, 100)), group_store(dihedral(99), (1, 99), (3, 5, 100)),
                      turning_store(ring(50), (1,), ((0,) + tuple(range(49, 0, -1)),))):
            told = sums.sum_of(store)
            self.assertTrue(is_bent_by_words(store, told.run, told.state, told.other))
            self.assertIs(sums.check_sum(store, told), True)

    def test_later_changes(self):
        adds = {"a": ((0, 1),)}
        value = Sum((0, 0), (0, 1), ring(2), adds)
        adds.clear()
        store = Store(2, ((("a", (1, 0), (0, 0)),), ()))
        self.assertEqual(value.adds, {"a": ((0, 1),)})
        told = sums.sum_of(store)
        told.adds.clear()
        self.assertEqual(len(sums.sum_of(store).adds), 1)


def names_in_one(store):
    return tuple(names_in(store, [0])[:1])


def lone_store(rng, table):
    """Offices that multiply by shares: from the left, from the right, and by shares of the centre; in any order."""
    middle = centre(table)
    rows = []
    for side in [0, 1] + [2] * rng.randrange(3):
        shares = rng.sample(range(len(table)), rng.randrange(1, min(4, len(table)) + 1))
        if side == 2:
            shares = [rng.choice(middle) for _ in shares]
        rows.append([tuple(table[c][x] if side == 0 else table[x][c] for x in range(len(table))) for c in shares])
    rng.shuffle(rows)
    offices = [tuple(("abcdefgh"[k] + "abcdefgh"[at], ends, (0,) * len(table)) for at, ends in enumerate(row)) for k, row in enumerate(rows)]
    return Store(len(table), tuple(offices))


class LoneTest(unittest.TestCase):

    def test_lone_offices(self):
        counts = set()
        rng = random.Random(1101)
        for store in itertools.chain(all_sorts(1102, 150), [lone_store(rng, table) for table in TABLES for _ in range(10)]):
            expected = tuple(k for k in range(len(store.offices))
                             if all(len(reached) == store.size for reached in reach_by_words(store, [k])))
            self.assertEqual(sums.lone_offices(store), expected)
            counts.add(len(expected))
        self.assertTrue({0, 1, 2, 3} <= counts, counts)

    def test_multipliers(self):
        rng = random.Random(1103)
        seen = {}
        tables = TABLES[1:] + [mixed(quaternions(), rng), mixed(dihedral(5), rng)]
        for _ in range(250):
            store = lone_store(rng, rng.choice(tables))
            lone = sums.lone_offices(store)
            base = rng.randrange(store.size)
            if not is_reversible(store) or len(lone) < 2:
                word = error_of(self, Refused, sums.multipliers, store, base=base).word
                self.assertEqual(word, "alone" if is_reversible(store) else "oneway")
                continue
            group = shared_group(store, office=lone[0], base=base)
            told = sums.multipliers(store, base=base)
            self.assertEqual(sorted(told), names_in(store))
            for office, row in enumerate(store.offices):
                for name, ends, _ in row:
                    share = told[name]
                    self.assertEqual(group.shares[share], ends[base])
                    for i in range(store.size):
                        product = group.table[share][i] if office == lone[0] else group.table[i][share]
                        self.assertEqual(ends[group.shares[i]], group.shares[product])
                    if office not in lone[:2]:
                        self.assertIn(share, centre(group.table))
            commutes = is_commutative(group.table)
            self.assertTrue(commutes or len(lone) == 2)
            self.assertEqual(sums.multipliers(store), sums.multipliers(store, base=0))
            key = (commutes, len(lone), lone[0], len(store.offices))
            seen[key] = seen.get(key, 0) + 1
        self.assertTrue({(True, 2, 0, 2), (True, 3, 0, 3), (False, 2, 1, 3), (False, 2, 0, 2), (True, 2, 1, 3)} <= set(seen), seen)

    def test_errors(self):
        alone = Store(2, ((("a", (1, 0), (0, 0)),), (("b", (0, 1), (0, 0)),), ()))
        errors_in_order(self, sums.multipliers, {"store": GOOD, "base": 1}, [
            ("base", wrong_numbers("base", 2)), ("store", REFUSED + refused("seen", SEEN, BOTH)),
            ("store", refused("oneway", ONEWAY)), ("store", refused("alone", alone))])

    def test_edges(self):
        one = Store(1, ((), ()))
        self.assertEqual((sums.lone_offices(store=one), sums.multipliers(store=one, base=0)), ((0, 1), {}))
        self.assertEqual(sums.multipliers(GOOD), {"a": 1, "b": 1, "c": 1})
        wide = group_store(dihedral(100), (1, 100), (2, 3, 100, 101))
        told = sums.multipliers(wide, base=5)
        self.assertEqual(len(told), 6)
        self.assertEqual(len(generated(shared_group(wide, base=5).table, (told["laa"], told["lab"]))), 200)
        self.assertEqual(max(homes(wide, 1)), 0)
        quiet = Store(200, tuple(tuple((n, e, (0,) * 200) for n, e, _ in row) for row in big_store().offices))
        self.assertEqual(sums.lone_offices(quiet), (0, 2, 4, 6))
        told = sums.multipliers(quiet, base=199)
        told["zaa"] = 7
        self.assertEqual((sums.multipliers(quiet, base=199)["zaa"], told["zac"], told["zbn"]), (1, 3, 40))


if __name__ == "__main__":
    unittest.main()
