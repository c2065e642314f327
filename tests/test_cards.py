"""[47]: stores of groups, and packs of cards."""

import itertools
import random
import unittest

from sharedunseen.cards import group_store, pack
from sharedunseen.clashes import all_clashes
from sharedunseen.errors import InvalidNumber, Refused
from sharedunseen.groups import generated
from sharedunseen.homes import is_reversible
from tests.support import Alike, error_of, not_numbers
from tests.test_groups import EIGHTS, SMALL, orders, ring


class GroupStoreTest(unittest.TestCase):

    def test_by_its_words(self):
        rng = random.Random(121)
        for table in SMALL + EIGHTS:
            for _ in range(6):
                lefts, rights = (tuple(rng.randrange(len(table)) for _ in range(rng.randrange(4))) for _ in "ab")
                store = group_store(table, lefts, rights)
                self.assertEqual((store.size, len(store.offices)), (len(table), 2))
                for k, shares in enumerate((lefts, rights)):
                    self.assertEqual(len(store.offices[k]), len(shares))
                    for place, (name, ends, told) in enumerate(store.offices[k]):
                        share = shares[place]
                        self.assertEqual(name, "lr"[k] + ("aa", "ab", "ac")[place])
                        products = [table[share][x] if k == 0 else table[x][share] for x in range(len(table))]
                        self.assertEqual((list(ends), set(told)), (products, {0}))
                self.assertEqual(all_clashes(store), ())
                both = {table[x][y] for x in generated(table, lefts) for y in generated(table, rights)}
                self.assertIs(is_reversible(store), len(both) == len(table))

    def test_names(self):
        store = group_store(table=ring(200), lefts=tuple(range(30)), rights=tuple(range(10)))
        names = [name for name, _, _ in store.offices[0]]
        self.assertEqual((names[0], names[1], names[25], names[26], names[29]), ("laa", "lab", "laz", "lba", "lbd"))
        self.assertEqual(store.offices[1][9][0], "raj")
        store = group_store(ring(2), (), (1,) * 40)
        self.assertEqual((store.offices[0], store.offices[1][39][0]), ((), "rbn"))
        self.assertEqual(group_store(ring(1), (), ()).names(), ())

    def test_errors(self):
        for share in not_numbers() + [3, 10 ** 20]:
            for lefts, rights in (((share,), ()), ((), (share,)), ((0, share), (0,) * 40), ((0,) * 40, (1, share))):
                self.assertEqual(error_of(self, InvalidNumber, group_store, ring(3), lefts, rights).word, "share")
        for lefts, rights in (((0,) * 41, ()), ((), (0,) * 41), ((0,) * 20, (0,) * 21)):
            self.assertEqual(error_of(self, Refused, group_store, ring(3), lefts, rights).word, "many")
        self.assertEqual(len(group_store(ring(3), (0,) * 20, (0,) * 20).names()), 40)


class PackTest(unittest.TestCase):

    def test_by_its_words(self):
        for many in range(1, 6):
            store = pack(many=many)
            cards = list(itertools.permutations(range(many)))
            self.assertEqual((store.size, len(store.offices)), (len(cards), 2))
            self.assertEqual([[op[0] for op in row] for row in store.offices],
                             [["p" + "abcd"[k] for k in range(many - 1)], ["c" + "abcd"[k] for k in range(many - 1)]])
            for k in range(many - 1):
                for number, order in enumerate(cards):
                    places = list(order)
                    places[k], places[k + 1] = places[k + 1], places[k]
                    self.assertEqual(cards[store.offices[0][k][1][number]], tuple(places))
                    moved = [k + 1 if card == k else k if card == k + 1 else card for card in order]
                    self.assertEqual(cards[store.offices[1][k][1][number]], tuple(moved))
            self.assertTrue(all(set(told) == {0} for row in store.offices for _, _, told in row))
            self.assertEqual(all_clashes(store), ())
            self.assertIs(is_reversible(store), True)

    def test_errors(self):
        for many in not_numbers() + [0, 6, 10 ** 30, Alike()]:
            self.assertEqual(error_of(self, InvalidNumber, pack, many).word, "many")

    def test_places_are_a_group(self):
        self.assertEqual(group_store(orders(3), (), ()).size, pack(3).size)


if __name__ == "__main__":
    unittest.main()
