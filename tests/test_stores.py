"""[1], [2], [4], [6], [7], [8]: stores."""

import random
import unittest

from sharedunseen.errors import InvalidStore, Refused
from sharedunseen.stores import Store, renamed, renumbered
from tests.support import LETTERS, Alike, Odd, big_store, error_of, many_stores, not_names, not_numbers, not_tuples
from tests.support import random_store

UP = ("up", (1, 2, 0), (5, 0, 0))


class StoreTest(unittest.TestCase):

    def fault(self, size, offices):
        return error_of(self, InvalidStore, Store, size, offices).at

    def test_attributes(self):
        store = Store(3, ((UP,), ()))
        self.assertEqual((store.size, store.offices), (3, ((UP,), ())))
        self.assertEqual(Store(offices=((), ()), size=1).size, 1)

    def test_sizes(self):
        for size in (1, 2, 199, 200):
            self.assertEqual(Store(size, ((), ())).size, size)
        for size in not_numbers() + [0, 201, 10 ** 30]:
            self.assertEqual(self.fault(size, ((), ())), -1)
            self.assertEqual(self.fault(size, None), -1)

    def test_offices_no_tuple(self):
        for offices in not_tuples():
            self.assertEqual(self.fault(1, offices), -1)
        self.assertEqual(self.fault(3, [(UP,), ()]), -1)

    def test_number_of_offices(self):
        for many in range(2, 9):
            self.assertEqual(len(Store(1, ((),) * many).offices), many)
        for many in (0, 1, 9, 10, 500):
            self.assertEqual(self.fault(1, ((),) * many), many)
        self.assertEqual(self.fault(1, ((),) * 9 + (None,)), 9)
        self.assertEqual(self.fault(1, (None,) + ((),) * 9), 0)

    def test_number_of_operations(self):
        ops = tuple((LETTERS[k // 26] + LETTERS[k % 26], (0,), (0,)) for k in range(41))
        self.assertEqual(len(Store(1, (ops[:40], ())).names()), 40)
        self.assertEqual(len(Store(1, (ops[:20], ops[20:40])).names()), 40)
        self.assertEqual(self.fault(1, (ops, ())), 2)
        self.assertEqual(self.fault(1, (ops[:20], ops[20:], ())), 3)
        self.assertEqual(self.fault(1, (ops, (), 5)), 2)

    def test_wrong_office(self):
        for office in not_tuples():
            for at in range(3):
                offices = [(UP,), (), (("x", (0, 0, 0), (0, 0, 0)),)]
                offices[at] = office
                self.assertEqual(self.fault(3, tuple(offices)), at)

    def test_wrong_operations(self):
        wrong = [(), ("up",), UP[:2], UP + (0,), list(UP), "abc", None, Odd(), Alike()]
        wrong += [(name, UP[1], UP[2]) for name in not_names()]
        for part in not_tuples() + [(), (0, 1), (0, 1, 2, 0), (0, 1, None), (0, 1, True), (-1, 0, 0), (0, "1", 0)]:
            wrong += [("up", part, UP[2]), ("up", UP[1], part)]
        wrong += [("up", (0, 1, 3), UP[2]), ("up", (3, 1, 0), UP[2]), ("up", (0, False, 0), UP[2])]
        wrong += [("up", UP[1], (0, 10 ** 12 + 1, 0)), ("up", UP[1], (0, 0, -1)), ("up", UP[1], (0.0, 0, 0))]
        for operation in wrong:
            for at in range(3):
                offices = [(("a", (0, 0, 0), (0, 0, 0)),), (), (("b", (0, 0, 0), (0, 0, 0)),)]
                offices[at] += (operation,)
                self.assertEqual(self.fault(3, tuple(offices)), at)

    def test_edges_of_operations(self):
        Store(3, ((("a", (0, 1, 2), (0, 10 ** 12, 1)), ("abcde", (2, 2, 2), (0, 0, 0))), ()))
        self.assertEqual(self.fault(3, (((("abcdef"), (0, 1, 2), (0, 0, 0)),), ())), 0)

    def test_names_twice(self):
        other = ("up", (0, 0, 0), (1, 1, 1))
        self.assertEqual(self.fault(3, ((UP, UP), ())), 0)
        self.assertEqual(self.fault(3, ((UP,), (), (other,))), 2)
        self.assertEqual(self.fault(3, ((UP,), (other,), None)), 1)
        self.assertEqual(self.fault(3, ((UP,), None, (other,))), 1)

    def test_order_of_errors(self):
        self.assertEqual(self.fault(0, (None,)), -1)
        self.assertEqual(self.fault(3, (None,)), 0)
        self.assertEqual(self.fault(3, ((UP, UP),)), 0)
        self.assertEqual(self.fault(3, ((UP,),)), 1)

    def test_equality(self):
        store = Store(3, ((UP,), ()))
        self.assertTrue(store == Store(3, ((UP,), ())))
        self.assertFalse(store != Store(3, ((UP,), ())))
        for other in (Store(3, ((), (UP,))), Store(3, ((UP,), (), ())), Store(1, ((), ())), None, 3, Odd(), (3, ((UP,), ()))):
            self.assertFalse(store == other)
            self.assertTrue(store != other)
        self.assertFalse(Store(1, ((), ())) == Store(2, ((), ())))
        self.assertFalse(Store(1, ((), ())) == Store(1, ((), (), ())))
        twin = Odd()
        twin.size, twin.offices = store.size, store.offices
        self.assertFalse(store == twin)

    def test_what_a_store_tells(self):
        store = Store(3, ((UP, ("b", (0, 0, 0), (0, 0, 0))), (), (("a", (0, 0, 0), (1, 1, 1)),)))
        self.assertEqual(store.names(), ("a", "b", "up"))
        self.assertEqual([store.office_of(name) for name in store.names()], [2, 0, 0])
        self.assertEqual(store.operation("up"), UP)
        self.assertEqual(store.operation(name="a"), ("a", (0, 0, 0), (1, 1, 1)))
        self.assertEqual(store.office_of(name="a"), 2)
        for name in not_names() + ["c", "u", "upp", 0, 1]:
            self.assertIsNone(store.office_of(name))
            self.assertIsNone(store.operation(name))
        self.assertEqual(Store(1, ((), ())).names(), ())

    def test_many(self):
        for store in many_stores(1, 200):
            self.assertEqual(store.names(), tuple(sorted(op[0] for office in store.offices for op in office)))
            for k, office in enumerate(store.offices):
                for operation in office:
                    self.assertEqual(store.operation(operation[0]), operation)
                    self.assertEqual(store.office_of(operation[0]), k)


class RenamedTest(unittest.TestCase):

    def test_renamed(self):
        store = Store(3, ((UP, ("b", (0, 0, 0), (0, 0, 0))), (("a", (0, 0, 0), (1, 1, 1)),)))
        names = {"up": "b", "b": "a", "a": "up", "c": 5, 7: None}
        before = dict(names)
        fresh = renamed(store, names)
        self.assertEqual(fresh.offices[0][0], ("b",) + UP[1:])
        self.assertEqual(fresh.names(), ("a", "b", "up"))
        self.assertEqual(names, before)
        names["up"] = "zzz"
        self.assertEqual(fresh.offices[0][0][0], "b")
        self.assertEqual(store.offices[0][0], UP)
        self.assertEqual(renamed(store=store, names={"up": "abcde", "b": "b", "a": "a"}).names(), ("a", "abcde", "b"))

    def test_refused(self):
        store = Store(3, ((UP, ("b", (0, 0, 0), (0, 0, 0))), ()))
        for names in ({}, {"up": "x"}, {"b": "x"}, {"up": "x", "b": "x"}, {"up": "b", "c": "b"}):
            self.assertEqual(error_of(self, Refused, renamed, store, names).word, "names")
        for name in not_names():
            self.assertEqual(error_of(self, Refused, renamed, store, {"up": name, "b": "c"}).word, "names")
            self.assertEqual(error_of(self, Refused, renamed, store, {"up": "c", "b": name}).word, "names")
        self.assertEqual(renamed(Store(1, ((), ())), {}), Store(1, ((), ())))


class RenumberedTest(unittest.TestCase):

    def test_by_its_words(self):
        rng = random.Random(3)
        for _ in range(200):
            store = random_store(rng)
            order = tuple(rng.sample(range(store.size), store.size))
            fresh = renumbered(store, order)
            self.assertEqual(fresh.size, store.size)
            for office, row in zip(fresh.offices, store.offices):
                for new, old in zip(office, row):
                    self.assertEqual(new[0], old[0])
                    for s in range(store.size):
                        self.assertEqual(new[1][order[s]], order[old[1][s]])
                        self.assertEqual(new[2][order[s]], old[2][s])

    def test_refused(self):
        store = Store(3, ((UP,), ()))
        wrong = not_tuples() + [(), (0, 1), (0, 1, 2, 3), (0, 1, 1), (0, 1, 3), (1, 2, 3), (-1, 0, 1), (0, True, 2)]
        for order in wrong + [(0, 1, "2"), (0, 1, None), (0, 1, 2.0), [0, 1, 2], (0, Alike(), 1), (False, 1, 2)]:
            self.assertEqual(error_of(self, Refused, renumbered, store, order).word, "order")
        self.assertEqual(renumbered(store=store, order=(0, 1, 2)), store)

    def test_big(self):
        store = big_store()
        order = tuple(reversed(range(200)))
        self.assertEqual(renumbered(renumbered(store, order), order), store)


if __name__ == "__main__":
    unittest.main()
