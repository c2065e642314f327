"""[85], [86]: the free group, and full offices."""

import itertools
import random
import unittest

from sharedunseen import fuller
from sharedunseen.errors import InvalidNumber, Refused
from sharedunseen.groups import check_table
from sharedunseen.letin import count_given, given_ends
from sharedunseen.shared import shared_group
from sharedunseen.stores import Store
from tests.sorts import is_reversible, is_unseen, whole_stores
from tests.support import Alike, Odd, big_store, error_of, not_numbers, not_tuples
from tests.test_homes import home_by_words, reach_by_words
from tests.test_shared import BOTH, ONEWAY, SEEN


def others_of(store, office):
    return [k for k in range(len(store.offices)) if k != office]


def stores(seed, many):
    yield from whole_stores(seed, many)
    yield from whole_stores(seed, many // 2, offices=3, size=16)


def all_given(store, office, most=400):
    """All tuples of ends that may be given, or None if they are too many."""
    many = count_given(store, office)
    return None if many > most else [given_ends(store, office, number) for number in range(many)]


def run_ends_by_words(store, office, most=10 ** 6):
    """The ends of all runs of an office."""
    found = {tuple(range(store.size))}
    todo = list(found)
    while todo and len(found) < most:
        here = todo.pop()
        for _, ends, _ in store.offices[office]:
            there = tuple(ends[state] for state in here)
            if there not in found:
                found.add(there)
                todo.append(there)
    return found


class FreeGroupTest(unittest.TestCase):

    def test_by_its_words(self):
        sizes = set()
        rng = random.Random(411)
        for store in stores(412, 80):
            for office in range(len(store.offices)):
                every = all_given(store, office)
                if every is None:
                    continue
                base = rng.randrange(store.size)
                home = home_by_words(reach_by_words(store, others_of(store, office)), base)
                group = fuller.free_group(store, office=office, base=base)
                goals = {ends[base] for ends in every} & home
                self.assertEqual(group.shares, (base,) + tuple(sorted(goals - {base})))
                check_table(group.table)
                for ends in every:
                    if ends[base] in home:
                        row = group.table[group.shares.index(ends[base])]
                        self.assertEqual([group.shares[k] for k in row], [ends[s] for s in group.shares])
                self.check_shared(store, office, base, group, every)
                homes = {min(home_by_words(reach_by_words(store, others_of(store, office)), s)) for s in range(store.size)}
                self.assertEqual(len(every), (len(homes) * len(group.shares)) ** len(homes))
                sizes.add((len(homes), len(group.shares)))
        self.assertGreater(len(sizes), 6)

    def check_shared(self, store, office, base, group, every):
        """The shares of `shared_group` are among them, with the same products."""
        shared = shared_group(store, office=office, base=base)
        places = [group.shares.index(state) for state in shared.shares]
        for i, row in enumerate(shared.table):
            for j, product in enumerate(row):
                self.assertEqual(group.table[places[i]][places[j]], places[product])
        rest = reach_by_words(store, others_of(store, office))
        own = reach_by_words(store, [office])
        leads_out = any(ends[s] in home_by_words(rest, s) and ends[s] not in home_by_words(own, s)
                        for ends in every for s in range(store.size))
        self.assertEqual(len(shared.shares) == len(group.shares), not leads_out)

    def test_errors_in_order(self):
        calls = [lambda store: fuller.free_group(store), lambda store: fuller.is_full(store, 0), lambda store: fuller.filled(store, 1),
                 lambda store: fuller.settled(store, tuple(range(len(store.offices))))]
        for store, word in ((SEEN, "seen"), (ONEWAY, "oneway"), (BOTH, "seen"), (big_store(), "seen")):
            for office in not_numbers() + [8]:
                self.assertEqual(error_of(self, InvalidNumber, fuller.free_group, store, office=office, base=None).word, "office")
                self.assertEqual(error_of(self, InvalidNumber, fuller.is_full, store, office).word, "office")
                self.assertEqual(error_of(self, InvalidNumber, fuller.filled, store, office).word, "office")
            for base in not_numbers() + [200]:
                self.assertEqual(error_of(self, InvalidNumber, fuller.free_group, store, office=1, base=base).word, "base")
            for call in calls:
                self.assertEqual(error_of(self, Refused, call, store).word, word)
        store = Store(2, ((), (("flip", (1, 0), (0, 0)),)))
        wrong = not_tuples() + [(), (0,), (0, 0), (1, 1), (0, 1, 2), (0, 2), (0, True), (False, 1), [0, 1], (0, "1"), (1, -1)]
        for other in (store, SEEN, ONEWAY):
            for order in wrong + [(0, Alike()), (Odd(), 1)]:
                self.assertEqual(error_of(self, InvalidNumber, fuller.settled, other, order).word, "order")
        with self.assertRaises(TypeError):
            fuller.free_group(store, 0)

    def test_edges(self):
        one = Store(1, ((), ()))
        group = fuller.free_group(store=one, office=1, base=0)
        self.assertEqual((group.table, group.shares), (((0,),), (0,)))
        self.assertIs(fuller.is_full(one, 0), True)
        self.assertEqual(fuller.filled(one, 0), one)
        self.assertEqual(fuller.settled(store=one, order=(1, 0)), one)
        mute = Store(3, ((), (("a", (1, 2, 0), (0, 0, 0)),)))
        self.assertEqual(fuller.free_group(mute, base=1).shares, (1, 0, 2))
        telling = Store(3, ((), (("a", (1, 2, 0), (0, 0, 1)),)))
        self.assertEqual(fuller.free_group(telling, base=1).shares, (1,))

    def test_big(self):
        quiet = Store(200, tuple(tuple((n, e, (0,) * 200) for n, e, _ in row) for row in big_store().offices))
        group = fuller.free_group(quiet, office=2, base=9)
        self.assertEqual(len(group.shares), 200)
        self.assertEqual(group.shares[group.table[3][5]], (group.shares[3] + group.shares[5] - 9) % 200)
        self.assertIs(fuller.is_full(store=quiet, office=0), True)
        self.assertIs(fuller.is_full(quiet, 1), False)


class FullTest(unittest.TestCase):

    def test_is_full(self):
        verdicts = [0, 0]
        for store in stores(421, 150):
            for office in range(len(store.offices)):
                many = count_given(store, office)
                if many > 10000:
                    self.assertEqual(error_of(self, Refused, fuller.is_full, store, office).word, "wide")
                    continue
                expected = len(run_ends_by_words(store, office)) == many
                self.assertIs(fuller.is_full(store, office), expected)
                verdicts[expected] += 1
        self.assertGreater(min(verdicts), 20)

    def alone(self, size):
        """The other office has no operation: all ends may be given."""
        return Store(size, ((("a", tuple((s + 1) % size for s in range(size)), (0,) * size),), ()))

    def test_wide(self):
        self.assertEqual(count_given(self.alone(5), 0), 5 ** 5)
        self.assertIs(fuller.is_full(self.alone(5), 0), False)
        self.assertEqual(error_of(self, Refused, fuller.is_full, self.alone(6), 0).word, "wide")
        # Two homes of 50 states each give (2 * 50) ** 2 = 10,000 tuples of ends, two of 51 too many.
        self.assertIs(fuller.is_full(self.two_homes(50), 0), False)
        self.assertIs(fuller.is_full(fuller.filled(self.two_homes(50), 0), 0), True)
        self.assertEqual(error_of(self, Refused, fuller.is_full, self.two_homes(51), 0).word, "wide")

    def two_homes(self, many):
        states = range(2 * many)
        over = tuple((s + many) % (2 * many) for s in states)
        turn = tuple((s + 1) % many + s // many * many for s in states)
        zeros = (0,) * (2 * many)
        return Store(2 * many, ((("over", over, zeros),), (("turn", turn, zeros),)))

    def check_filled(self, store, office):
        shares = len(fuller.free_group(store, office=office).shares)
        most = 3
        while 2 ** (most - 2) <= shares:
            most += 1
        new = fuller.filled(store, office)
        for k, row in enumerate(store.offices):
            if k != office:
                self.assertEqual(new.offices[k], row)
        old = store.offices[office]
        self.assertEqual(new.offices[office][:len(old)], old)
        fresh = new.offices[office][len(old):]
        self.assertLessEqual(len(fresh), most)
        self.assertTrue(all(told == (0,) * store.size for _, _, told in fresh))
        self.assertTrue(is_unseen(new) and is_reversible(new))
        self.assertEqual(new.size, store.size)
        return new

    def test_filled(self):
        full = 0
        for store in stores(422, 120):
            for office in range(len(store.offices)):
                new = self.check_filled(store, office)
                many = count_given(store, office)
                self.assertEqual(count_given(new, office), many)
                if many <= 2000:
                    self.assertEqual(len(run_ends_by_words(new, office)), many)
                    self.assertIs(fuller.is_full(new, office), True)
                    group = fuller.free_group(new, office=office)
                    shared = shared_group(new, office=office)
                    self.assertEqual((group.table, group.shares), (shared.table, shared.shares))
                    full += many > 4
        self.assertGreater(full, 50)

    def test_settled(self):
        unlike = 0
        for store in stores(423, 40):
            told = {}
            for order in itertools.permutations(range(len(store.offices))):
                new = fuller.settled(store, order)
                by_hand = store
                for office in order:
                    by_hand = fuller.filled(by_hand, office)
                self.assertEqual(new, by_hand)
                counts = tuple(count_given(new, office) for office in order)
                told[order] = tuple(count_given(new, office) for office in range(len(order)))
                for office, many in zip(order, counts):
                    if many <= 10000:
                        self.assertIs(fuller.is_full(new, office), True)
            unlike += len(set(told.values())) > 1
        self.assertGreater(unlike, 3)

    def filled_up(self, store, office, operations):
        """The store with so many operations, the further ones of an office that change nothing."""
        rows = list(store.offices)
        still = tuple(range(store.size))
        letters = [a + b for a in "opqr" for b in "abcdefghijklmnopqrstuvwxyz"]
        rows[office] += tuple((letters[k], still, (0,) * store.size) for k in range(operations - len(store.names())))
        return Store(store.size, tuple(rows))

    def test_many(self):
        # The free group of office 0 has 8 shares: 3 and 3 more operations, which fit to 34 operations and not to 35.
        store = self.two_homes(8)
        for office, most in ((0, 34), (1, 36)):
            group = fuller.free_group(store, office=office)
            self.assertEqual(len(group.shares), 8 if office == 0 else 2)
            new = self.check_filled(self.filled_up(store, 1 - office, most), office)
            self.assertLessEqual(len(new.names()), 40)
            wide = self.filled_up(store, 1 - office, most + 1)
            self.assertEqual(error_of(self, Refused, fuller.filled, wide, office).word, "many")
            self.assertEqual(error_of(self, Refused, fuller.settled, wide, (office, 1 - office)).word, "many")
        seen = self.filled_up(Store(2, SEEN.offices), 0, 40)
        self.assertEqual(error_of(self, Refused, fuller.filled, seen, 0).word, "seen")
        one = self.filled_up(Store(1, ((), ())), 0, 38)
        self.assertEqual(error_of(self, Refused, fuller.filled, one, 0).word, "many")
        self.assertEqual(fuller.filled(self.filled_up(Store(1, ((), ())), 0, 37), 1).size, 1)

    def test_taken_names(self):
        zeros = (0,) * 4
        rows = ((("a", (1, 0, 3, 2), zeros), ("b", (0, 1, 2, 3), zeros), ("d", (2, 3, 0, 1), zeros)), (("c", (0, 1, 2, 3), zeros),))
        new = fuller.filled(Store(4, rows), 0)
        self.assertEqual(len(set(new.names())), len(new.names()))
        self.assertIs(fuller.is_full(new, 0), True)

    def test_big(self):
        quiet = big_store(offices=2, operations=8)
        quiet = Store(200, tuple(tuple((n, e, (0,) * 200) for n, e, _ in row) for row in quiet.offices))
        new = fuller.filled(quiet, 1)
        self.assertEqual(count_given(new, 1), 200)
        self.assertIs(fuller.is_full(new, 1), True)
        alone = self.alone(200)
        self.assertEqual(len(fuller.filled(store=alone, office=0).offices[0]), 4)


if __name__ == "__main__":
    unittest.main()
