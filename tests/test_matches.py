"""[9]: matches."""

import itertools
import random
import unittest

from sharedunseen.errors import InvalidNumber, Refused
from sharedunseen.matches import matches
from sharedunseen.stores import Store, renumbered
from tests.support import big_store, error_of, many_stores, not_numbers, random_store


def is_reached(store):
    seen = {0}
    while True:
        fresh = seen | {ends[s] for s in seen for office in store.offices for _, ends, _ in office}
        if fresh == seen:
            return len(seen) == store.size
        seen = fresh


class MatchesTest(unittest.TestCase):

    def by_trying(self, one, other):
        if one.size != other.size:
            return ()
        orders = itertools.permutations(range(one.size))
        return tuple(order for order in orders if renumbered(one, order) == other)

    def test_all_orders_tried(self):
        rng = random.Random(5)
        found = 0
        for store in many_stores(7, 600, sizes=(1, 6)):
            if not is_reached(store):
                self.assertEqual(error_of(self, Refused, matches, store, store).word, "reach")
                continue
            order = tuple(rng.sample(range(store.size), store.size))
            for other in (store, renumbered(store, order), random_store(rng, offices=(2, 3), operations=(0, 1))):
                expected = self.by_trying(store, other)
                found += len(expected) > 1
                self.assertEqual(matches(store, other), expected)
                for most in range(4):
                    self.assertEqual(matches(store, other, most=most), expected[:most])
        self.assertGreater(found, 10)

    def test_unlike_stores(self):
        one = Store(2, ((("a", (1, 0), (0, 0)),), ()))
        for offices in (((("b", (1, 0), (0, 0)),), ()), ((), (("a", (1, 0), (0, 0)),)), one.offices + ((),),
                        ((("a", (1, 0), (0, 1)),), ()), ((("a", (1, 1), (0, 0)),), ())):
            self.assertEqual(matches(one, Store(2, offices)), ())
        self.assertEqual(matches(one, Store(1, ((("a", (0,), (0,)),), ()))), ())
        two = (("a", (1, 0), (0, 0)), ("b", (0, 1), (0, 0)))
        self.assertEqual(matches(Store(2, (two, ())), Store(2, (two[::-1], ()))), ())

    def test_not_one_to_one(self):
        one = Store(4, ((("a", (1, 2, 3, 0), (0,) * 4),), ()))
        other = Store(4, ((("a", (1, 0, 3, 2), (0,) * 4),), ()))
        self.assertEqual(matches(one, other), ())

    def test_most(self):
        ring = Store(200, ((("up", tuple((s + 1) % 200 for s in range(200)), (0,) * 200),), ()))
        found = matches(ring, ring)
        self.assertEqual(found, tuple(tuple((s + k) % 200 for s in range(200)) for k in range(200)))
        for most in (0, 1, 2, 199, 200):
            self.assertEqual(matches(one=ring, other=ring, most=most), found[:most])
        for most in not_numbers() + [201, 10 ** 20]:
            self.assertEqual(error_of(self, InvalidNumber, matches, ring, ring, most=most).word, "most")
        with self.assertRaises(TypeError):
            matches(ring, ring, 3)

    def test_order_of_errors(self):
        apart = Store(2, ((), ()))
        self.assertEqual(error_of(self, InvalidNumber, matches, apart, apart, most=201).word, "most")
        self.assertEqual(error_of(self, Refused, matches, apart, apart, most=0).word, "reach")
        self.assertEqual(error_of(self, Refused, matches, apart, Store(1, ((), ()))).word, "reach")
        self.assertEqual(matches(Store(1, ((), ())), Store(1, ((), ()))), ((0,),))

    def test_big(self):
        store = big_store()
        order = tuple((s * 7 + 3) % 200 for s in range(200))
        self.assertIn(order, matches(store, renumbered(store, order)))


if __name__ == "__main__":
    unittest.main()
