"""[28]: shown to be reversible, or one-way."""

import random
import unittest

from sharedunseen import reversal
from sharedunseen.homes import closed_lot
from sharedunseen.stores import Store
from tests.sorts import all_sorts, is_reversible, shortest_by_words
from tests.support import Alike, Odd, Touchy, big_store, done, names_in, not_names, not_numbers, not_tuples, odd_things
from tests.test_homes import TAIL, lots_of

STORE = Store(3, ((("a", (1, 2, 0), (0, 0, 0)),), (("b", (0, 0, 2), (0, 0, 0)),)))
ONEWAY = Store(3, ((("a", (1, 1, 2), (0, 0, 0)),), (("b", (0, 1, 1), (0, 0, 0)),)))


def is_closed(store, lot):
    return all(ends[s] in lot for row in store.offices for _, ends, _ in row for s in lot)


class ReversalTest(unittest.TestCase):

    def test_by_its_words(self):
        kinds = [0, 0]
        for store in all_sorts(311, 250):
            told = reversal.reversal(store)
            whole = is_reversible(store)
            kinds[whole] += 1
            self.assertIs(told.__class__, reversal.Reversible if whole else reversal.OneWay)
            if whole:
                for state in range(store.size):
                    self.assertEqual(told.outward[state], shortest_by_words(store, 0, state))
                    self.assertEqual(told.homeward[state], shortest_by_words(store, state, 0))
            else:
                closed = [lot for lot in lots_of(store.size)[1:-1] if is_closed(store, lot)] if store.size < 9 else None
                self.assertEqual(told.lot, closed[0] if closed else closed_lot(store))
            self.assertIs(reversal.check_reversal(store, told), True)
        self.assertGreater(min(kinds), 50)

    def test_all_lots(self):
        for store in all_sorts(312, 120):
            if store.size < 8:
                for lot in lots_of(store.size):
                    expected = 0 < len(lot) < store.size and is_closed(store, lot)
                    self.assertIs(reversal.check_reversal(store, reversal.OneWay(lot)), expected)

    def test_other_runs(self):
        """Runs of any length are accepted, and refused with one part changed."""
        rng = random.Random(313)
        verdicts = [0, 0]
        for store in all_sorts(314, 150):
            if not is_reversible(store) or not names_in(store):
                continue
            told = reversal.reversal(store)
            for side in range(2):
                rows = [list(told.outward), list(told.homeward)]
                for at in range(store.size):
                    old = rows[side][at]
                    run = tuple(rng.choice(names_in(store)) for _ in range(rng.randrange(6)))
                    for fresh in (old + run, run + old, old[1:], old[:-1]):
                        rows[side][at] = fresh
                        value = reversal.Reversible(tuple(rows[0]), tuple(rows[1]))
                        expected = done(store, 0, fresh)[0] == at if side == 0 else done(store, at, fresh)[0] == 0
                        self.assertIs(reversal.check_reversal(store, value), expected)
                        verdicts[expected] += 1
                    rows[side][at] = old
        self.assertGreater(min(verdicts), 50)

    def test_any_value(self):
        good = reversal.reversal(STORE)
        self.assertEqual(good.homeward, ((), ("b",), ("a",)))
        odd = Odd()
        odd.outward, odd.homeward, odd.lot = good.outward, good.homeward, (1,)
        things = odd_things() + [True, 0, (), "abc", {}, odd, (good.outward, good.homeward), (1,), reversal.Reversible]
        for value in things:
            for store in (STORE, ONEWAY):
                self.assertIs(reversal.check_reversal(store, value), False)
            self.assertIs(reversal.check_reversal(STORE, reversal.Reversible(value, good.homeward)), False)
            self.assertIs(reversal.check_reversal(STORE, reversal.Reversible(good.outward, value)), False)
            self.assertIs(reversal.check_reversal(ONEWAY, reversal.OneWay(value)), value == (1,) if value.__class__ is tuple else False)
        for at in range(3):
            for run in not_tuples() + [("x",), (None,), (("a",),), (Alike(),), (Touchy(),), [], ["a"]]:
                rows = list(good.outward)
                rows[at] = run
                self.assertIs(reversal.check_reversal(STORE, reversal.Reversible(tuple(rows), good.homeward)), False)
                rows = list(good.homeward)
                rows[at] = run
                self.assertIs(reversal.check_reversal(STORE, reversal.Reversible(good.outward, tuple(rows))), False)
        for rows in (good.outward[1:], good.outward + ((),), good.outward[:2], list(good.outward)):
            self.assertIs(reversal.check_reversal(STORE, reversal.Reversible(rows, good.homeward)), False)
        for rows in (good.homeward[:2], good.homeward + ((),), list(good.homeward)):
            self.assertIs(reversal.check_reversal(STORE, reversal.Reversible(good.outward, rows)), False)
        for lot in [(), (0, 1, 2), (1, 0), (1, 1), (0,), (2,), (True,), (3,), (-1,), [1], (1.0,)] + [(item,) for item in not_numbers()]:
            self.assertIs(reversal.check_reversal(ONEWAY, reversal.OneWay(lot)), False)
        self.assertIs(reversal.check_reversal(store=ONEWAY, value=reversal.OneWay(lot=(0, 1))), True)
        self.assertIs(reversal.check_reversal(STORE, reversal.OneWay((0, 1, 2))), False)
        for name in not_names():
            self.assertIs(reversal.check_reversal(STORE, reversal.Reversible(((name,),) + good.outward[1:], good.homeward)), False)

    def test_edges(self):
        one = Store(1, ((), ()))
        told = reversal.reversal(store=one)
        self.assertEqual((told.outward, told.homeward), (((),), ((),)))
        self.assertIs(reversal.check_reversal(one, told), True)
        self.assertIs(reversal.check_reversal(one, reversal.OneWay((0,))), False)
        kept = reversal.Reversible(outward=1, homeward=[2])
        self.assertEqual((kept.outward, kept.homeward, reversal.OneWay(lot=3).lot), (1, [2], 3))

    def test_big(self):
        self.assertEqual(reversal.reversal(TAIL).lot, (199,))
        told = reversal.reversal(big_store())
        self.assertIs(reversal.check_reversal(big_store(), told), True)
        around = Store(200, ((("a", tuple((s + 1) % 200 for s in range(200)), (0,) * 200),), ()))
        told = reversal.reversal(around)
        self.assertEqual((told.outward[7], told.homeward[7]), (("a",) * 7, ("a",) * 193))
        long = tuple(run + ("a",) * 9600 for run in told.outward)
        self.assertIs(reversal.check_reversal(around, reversal.Reversible(long, told.homeward)), True)


if __name__ == "__main__":
    unittest.main()
