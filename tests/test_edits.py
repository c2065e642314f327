"""What [102] says of `extends`."""

import unittest

from sharedunseen.edits import extends
from sharedunseen.stores import Store
from tests.support import many_stores

A = ("a", (1, 0), (0, 0))
B = ("b", (0, 0), (0, 1))


class ExtendsTest(unittest.TestCase):

    def test_by_its_words(self):
        for store in many_stores(131, 100):
            self.assertIs(extends(one=store, other=store), True)
            for k, office in enumerate(store.offices):
                fewer = store.offices[:k] + (office[1:],) + store.offices[k + 1:]
                less = Store(store.size, fewer)
                self.assertIs(extends(store, less), True)
                self.assertIs(extends(less, store), not office)
            if len(store.offices) > 2:
                less = Store(store.size, store.offices[:-1])
                self.assertIs(extends(store, less), True)
                self.assertIs(extends(less, store), False)

    def test_edges(self):
        store = Store(2, ((A, B), ()))
        self.assertIs(extends(store, Store(2, ((B, A), ()))), True)
        self.assertIs(extends(store, Store(2, ((), (A,)))), False)
        self.assertIs(extends(store, Store(2, ((("a", (1, 0), (0, 1)),), ()))), False)
        self.assertIs(extends(store, Store(2, ((("a", (1, 1), (0, 0)),), ()))), False)
        self.assertIs(extends(store, Store(2, ((("c", (1, 0), (0, 0)),), ()))), False)
        self.assertIs(extends(store, Store(1, ((), ()))), False)
        self.assertIs(extends(Store(1, ((), ())), Store(2, ((), ()))), False)
        self.assertIs(extends(store, Store(2, ((), (), ()))), False)
        self.assertIs(extends(Store(2, ((), (), ())), Store(2, ((), ()))), True)


if __name__ == "__main__":
    unittest.main()
