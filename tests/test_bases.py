"""[52], [53]: other names of the same states."""

import itertools
import math
import random
import unittest

from sharedunseen import bases, names
from sharedunseen.cards import group_store, pack
from sharedunseen.errors import InvalidNumber, InvalidState, Refused
from sharedunseen.groups import check_table
from sharedunseen.stores import Store
from tests.sorts import whole_stores
from tests.support import Alike, Odd, Touchy, big_store, error_of, not_numbers, not_tuples
from tests.test_groups import orders, ring
from tests.test_names import PARTS, are_names_by_words, parts_of
from tests.test_shared import BOTH, ONEWAY, SEEN

WIDE = Store(2, SEEN.offices + ((),))


def frozen(told):
    return tuple(tuple(getattr(told, part).items()) if part in PARTS[4:] else getattr(told, part) for part in PARTS)


def all_turnings(told):
    """All names that come of these by turning."""
    many, own, other = len(told.table), max(told.owns) + 1, max(told.others) + 1
    for rest in itertools.permutations(range(1, many)):
        for lefts in itertools.product(range(many), repeat=own):
            for rights in itertools.product(range(many), repeat=other):
                yield bases.turned(told, (0,) + rest, lefts, rights)


def idle_by_words(told):
    left = sum(pair[1] == 0 for row in told.left.values() for pair in row)
    return left + sum(pair[0] == 0 for row in told.right.values() for pair in row)


def idle_ways(told, state):
    """Whether operations with idle factors lead from the parts of the state to all parts."""
    p, _, q = names.name_of(told, state)
    owns, others = {p}, {q}
    for _ in range(len(told.owns)):
        owns |= {row[own][0] for own in owns for row in told.left.values() if row[own][1] == 0}
        others |= {row[other][1] for other in others for row in told.right.values() if row[other][0] == 0}
    return owns == set(told.owns) and others == set(told.others)


class TurnedTest(unittest.TestCase):

    def test_by_its_words(self):
        rng = random.Random(391)
        for store in whole_stores(392, 120):
            told = names.names_of(store)
            many, own, other = len(told.table), max(told.owns) + 1, max(told.others) + 1
            images = (0,) + tuple(rng.sample(range(1, many), many - 1))
            lefts = tuple(rng.randrange(many) for _ in range(own))
            rights = tuple(rng.randrange(many) for _ in range(other))
            new = bases.turned(told, images, lefts, rights)
            check_table(new.table)
            for x, y in itertools.product(range(many), repeat=2):
                self.assertEqual(new.table[images[x]][images[y]], images[told.table[x][y]])
            for state, (p, g, q) in enumerate(zip(told.owns, told.shares, told.others)):
                self.assertEqual(new.shares[state], new.table[new.table[lefts[p]][images[g]]][rights[q]])
            self.assertTrue(are_names_by_words(store, parts_of(new)))
            self.assertIs(names.check_names(store, new), True)
            self.assertEqual(names.store_of(new), store)
            self.assertEqual(list(new.answers), list(told.answers))

    def test_all_turnings(self):
        """All names of a store are turned into one another, and as many as are counted."""
        counted = set()
        for store in whole_stores(393, 100, size=9):
            told = names.names_of(store)
            many = bases.count_names(store)
            if many > 400:
                continue
            found = {frozen(new) for new in all_turnings(told)}
            self.assertEqual(len(found), many)
            counted.add(many)
            self.assertEqual(found, {frozen(new) for new in all_turnings(bases.tree_names(store, store.size - 1))})
        self.assertGreater(len(counted), 4)

    def test_all_names_tried(self):
        """Of a store of two parts and a group of two shares, all values of the right kinds tried."""
        store = Store(2, ((("a", (1, 0), (0, 0)),), (("b", (1, 0), (0, 0)),)))
        told = parts_of(names.names_of(store))
        found = 0
        for shares in itertools.product(range(2), repeat=2):
            for table in (((0, 1), (1, 0)), ((0, 1), (1, 1)), ((1, 0), (0, 1))):
                for c, d in itertools.product(range(2), repeat=2):
                    new = names.Names(**{**told, "shares": shares, "table": table, "left": {"a": ((0, c),)}, "right": {"b": ((d, 0),)}})
                    found += names.check_names(store, new)
        self.assertEqual(found, bases.count_names(store))

    def test_errors_in_order(self):
        store = next(store for store in whole_stores(394, 500) if self.shape(store) == (2, 3, 2))
        told = names.names_of(store)
        wrong = not_tuples() + [(), (0, 1), (0, 1, 2, 3), (1, 0, 2), (2, 1, 0), (0, 1, 1), (0, 0, 1), (0, 1, 3), (0, True, 2), [0, 1, 2]]
        for images in wrong + [(0, 1, item) for item in not_numbers()]:
            self.assertEqual(error_of(self, InvalidNumber, bases.turned, told, images, None, None).word, "images")
        wrong = not_tuples() + [(), (0,), (0, 0, 0), (0, 3), (-1, 0), (0, True), [0, 0]] + [(0, item) for item in not_numbers()]
        for row in wrong + [(Odd(), 0), (Alike(), 0), (Touchy(), 0)]:
            self.assertEqual(error_of(self, InvalidNumber, bases.turned, told, (0, 2, 1), row, None).word, "lefts")
            self.assertEqual(error_of(self, InvalidNumber, bases.turned, told, (0, 2, 1), (0, 2), row).word, "rights")
        new = bases.turned(names=told, images=(0, 2, 1), lefts=(0, 2), rights=(1, 1))
        self.assertIs(names.check_names(store, new), True)

    def shape(self, store):
        told = names.names_of(store)
        return max(told.owns) + 1, len(told.table), max(told.others) + 1

    def test_kept(self):
        store = pack(3)
        told = names.names_of(store)
        before = frozen(told)
        new = bases.turned(told, (0, 2, 1, 3, 4, 5), (3,), (4,))
        new.answers.clear()
        new.left.clear()
        self.assertEqual(frozen(told), before)


class CountTest(unittest.TestCase):

    def test_by_its_words(self):
        for store in whole_stores(395, 100):
            told = names.names_of(store)
            many = len(told.table)
            expected = math.factorial(many - 1) * many ** (max(told.owns) + max(told.others) + 1)
            self.assertEqual(bases.count_names(store), expected)

    def test_edges(self):
        self.assertEqual(bases.count_names(store=Store(1, ((), ()))), 1)
        everything = tuple(range(200))
        around = (("a", everything[1:] + (0,), (0,) * 200),)
        self.assertEqual(bases.count_names(Store(200, (around, ()))), 1)
        other = (("b", everything[1:] + (0,), (0,) * 200),)
        self.assertEqual(bases.count_names(Store(200, (around, other))), math.factorial(199) * 200)

    def test_refused(self):
        for store, word in ((SEEN, "seen"), (BOTH, "seen"), (ONEWAY, "oneway"), (WIDE, "offices"), (big_store(), "offices")):
            self.assertEqual(error_of(self, Refused, bases.count_names, store).word, word)
            self.assertEqual(error_of(self, Refused, bases.tree_names, store, None).word, word)
            self.assertEqual(error_of(self, Refused, bases.idle_names, store, most=None).word, word)


class IdleTest(unittest.TestCase):

    def test_factors(self):
        for store in whole_stores(401, 60):
            told = names.names_of(store)
            self.assertEqual(bases.idle_factors(names=told), idle_by_words(told))

    def test_tree_names(self):
        for store in whole_stores(402, 60):
            for state in range(store.size):
                told = bases.tree_names(store, state)
                self.assertTrue(are_names_by_words(store, parts_of(told)))
                self.assertIs(names.check_names(store, told), True)
                self.assertEqual(told.shares[state], 0)
                self.assertTrue(idle_ways(told, state))
        store = pack(3)
        for state in not_numbers() + [6]:
            error_of(self, InvalidState, bases.tree_names, store, state)
        self.assertEqual(bases.tree_names(store=store, state=5).shares[5], 0)

    def test_most_idle(self):
        """No names have more idle factors: all turnings tried."""
        better = 0
        for store in whole_stores(403, 150, size=12, counts=(1, 4)):
            told = bases.idle_names(store)
            self.assertTrue(are_names_by_words(store, parts_of(told)))
            self.assertIs(names.check_names(store, told), True)
            plain = names.names_of(store)
            better += bases.idle_factors(told) > bases.idle_factors(plain)
            if bases.count_names(store) <= 3000:
                most = max(idle_by_words(new) for new in all_turnings(plain))
                self.assertEqual(bases.idle_factors(told), most)
        self.assertGreater(better, 5)

    def test_most_idle_of_any_group(self):
        """Stores with a group that is not commutative: images do not matter, so only shares of parts are tried."""
        rng = random.Random(404)
        table = orders(3)
        for _ in range(6):
            states = [(p, g, q) for p in range(3) for g in range(6) for q in range(2)]
            number = {state: k for k, state in enumerate(states)}
            rows = [[], []]
            for k in range(4):
                goals = [(p + k) % 3 for p in range(3)]
                factors = [rng.randrange(6) for _ in range(3)]
                ends = tuple(number[(goals[p], table[factors[p]][g], q)] for p, g, q in states)
                rows[0].append(("a" + "abcd"[k], ends, (0,) * 36))
                others = [rng.randrange(6) for _ in range(2)]
                ends = tuple(number[(p, table[g][others[q]], (q + k) % 2)] for p, g, q in states)
                rows[1].append(("b" + "abcd"[k], ends, (0,) * 36))
            store = Store(36, tuple(map(tuple, rows)))
            plain = names.names_of(store)
            own, other, many = max(plain.owns) + 1, max(plain.others) + 1, len(plain.table)
            most = 0
            for lefts in itertools.product(range(many), repeat=own - 1):
                for rights in itertools.product(range(many), repeat=other - 1):
                    new = bases.turned(plain, tuple(range(many)), (0,) + lefts, (0,) + rights)
                    most = max(most, idle_by_words(new))
            told = bases.idle_names(store)
            self.assertIs(names.check_names(store, told), True)
            self.assertEqual(idle_by_words(told), most)

    def test_most(self):
        store = next(store for store in whole_stores(405, 900) if bases.measure(store) == (3, 4, 2))
        for most in not_numbers() + [10001, 10 ** 30]:
            self.assertEqual(error_of(self, InvalidNumber, bases.idle_names, store, most=most).word, "most")
        for most in (0, 1, 15):
            self.assertEqual(error_of(self, Refused, bases.idle_names, store, most=most).word, "wide")
        for most in (16, 10000):
            self.assertIs(names.check_names(store, bases.idle_names(store=store, most=most)), True)
        other = Store(store.size, store.offices[::-1])
        self.assertEqual(error_of(self, Refused, bases.idle_names, other, most=15).word, "wide")
        self.assertIs(names.check_names(other, bases.idle_names(other, most=16)), True)
        one = Store(1, ((), ()))
        self.assertEqual(error_of(self, Refused, bases.idle_names, one, most=0).word, "wide")
        self.assertEqual(bases.idle_names(one, most=1).shares, (0,))
        with self.assertRaises(TypeError):
            bases.idle_names(one, 1)

    def test_big(self):
        # Fourteen own parts and two shares: 8,192 choices; 100 parts: too many.
        rng = random.Random(406)
        states = [(p, g) for p in range(14) for g in range(2)]
        row = []
        for k in range(20):
            factors = [rng.randrange(2) for _ in range(14)]
            ends = tuple(2 * ((p + k) % 14) + (g + factors[p]) % 2 for p, g in states)
            row.append(("a" + "abcdefghijklmnopqrst"[k], ends, (0,) * 28))
        flip = (("flip", tuple(2 * p + 1 - g for p, g in states), (0,) * 28),)
        store = Store(28, (tuple(row), flip))
        told = bases.idle_names(store)
        self.assertIs(names.check_names(store, told), True)
        self.assertGreaterEqual(bases.idle_factors(told), bases.idle_factors(names.names_of(store)))
        wide = group_store(ring(10), (1,), (1,))
        self.assertEqual(bases.idle_factors(bases.idle_names(wide, most=1)), 0)
        everything = tuple(range(200))
        ends = tuple(2 * ((s // 2 + 1) % 100) + s % 2 for s in everything)
        pairs = tuple(s + 1 - 2 * (s % 2) for s in everything)
        both = Store(200, ((("a", ends, (0,) * 200), ("b", pairs, (0,) * 200)), (("c", pairs, (0,) * 200),)))
        self.assertEqual(error_of(self, Refused, bases.idle_names, both).word, "wide")
        alone = Store(200, ((("a", everything[1:] + (0,), (0,) * 200),), ()))
        self.assertEqual(bases.idle_factors(bases.idle_names(alone, most=1)), 200)


if __name__ == "__main__":
    unittest.main()
