"""[10]: stores side by side, and parts."""

import itertools
import random
import unittest

from sharedunseen.beside import part_of, side_by_side
from sharedunseen.clashes import all_clashes
from sharedunseen.errors import Refused
from sharedunseen.homes import is_reversible
from sharedunseen.stores import Store, renamed
from tests.support import LETTERS, Alike, Odd, error_of, many_stores, not_tuples


def with_other_names(store):
    return renamed(store, {name: "y" + LETTERS[k] for k, name in enumerate(store.names())})


def plain(size, operations, letter, office=0, offices=2):
    """A store with so many operations that change nothing, in one office."""
    row = tuple((letter + LETTERS[k // 26] + LETTERS[k % 26], tuple(range(size)), (0,) * size) for k in range(operations))
    return Store(size, tuple(row if k == office else () for k in range(offices)))


class SideBySideTest(unittest.TestCase):

    def test_by_its_words(self):
        seen = set()
        stores = list(many_stores(111, 200))
        for one, second in zip(stores, stores[1:] + stores[:1]):
            other = with_other_names(second)
            if one.size * other.size > 200 or set(one.names()) & set(other.names()):
                continue
            both = side_by_side(one, other)
            self.assertEqual(both.size, one.size * other.size)
            self.assertEqual(len(both.offices), max(len(one.offices), len(other.offices)))
            for k, office in enumerate(both.offices):
                first = one.offices[k] if k < len(one.offices) else ()
                last = other.offices[k] if k < len(other.offices) else ()
                self.assertEqual([op[0] for op in office], [op[0] for op in first + last])
                for place, (_, ends, told) in enumerate(office):
                    for s, t in itertools.product(range(one.size), range(other.size)):
                        number = s * other.size + t
                        if place < len(first):
                            self.assertEqual((ends[number], told[number]), (first[place][1][s] * other.size + t, first[place][2][s]))
                        else:
                            _, old_ends, old_told = last[place - len(first)]
                            self.assertEqual((ends[number], told[number]), (s * other.size + old_ends[t], old_told[t]))
            unseen = not all_clashes(one) and not all_clashes(other)
            self.assertIs(not all_clashes(both), unseen)
            self.assertIs(is_reversible(both), is_reversible(one) and is_reversible(other))
            seen.add(unseen)
        self.assertEqual(seen, {True, False})

    def test_refused(self):
        small = plain(2, 1, "a")
        self.assertEqual(error_of(self, Refused, side_by_side, small, plain(200, 40, "a", office=1)).word, "names")
        self.assertEqual(error_of(self, Refused, side_by_side, plain(2, 1, "b"), plain(101, 40, "a")).word, "size")
        self.assertEqual(error_of(self, Refused, side_by_side, plain(2, 1, "b"), plain(100, 40, "a")).word, "operations")
        self.assertEqual(error_of(self, Refused, side_by_side, plain(3, 0, "b"), plain(67, 0, "a")).word, "size")
        both = side_by_side(one=plain(2, 1, "b"), other=plain(100, 39, "a", office=7, offices=8))
        self.assertEqual((both.size, len(both.names()), len(both.offices)), (200, 40, 8))
        self.assertEqual([len(office) for office in both.offices], [1, 0, 0, 0, 0, 0, 0, 39])
        self.assertEqual(side_by_side(plain(1, 0, "a"), plain(1, 0, "a")), plain(1, 0, "a"))


class PartOfTest(unittest.TestCase):

    def test_by_its_words(self):
        rng = random.Random(112)
        words = set()
        for store in many_stores(113, 300):
            lot = tuple(sorted(rng.sample(range(store.size), rng.randrange(1, store.size + 1))))
            if any(ends[s] not in lot for row in store.offices for _, ends, _ in row for s in lot):
                self.assertEqual(error_of(self, Refused, part_of, store, lot).word, "open")
                words.add("open")
                continue
            words.add(len(lot) == store.size)
            part = part_of(store=store, lot=lot)
            self.assertEqual((part.size, len(part.offices)), (len(lot), len(store.offices)))
            for office, row in zip(part.offices, store.offices):
                for new, old in zip(office, row):
                    self.assertEqual(new[0], old[0])
                    self.assertEqual([lot[end] for end in new[1]], [old[1][s] for s in lot])
                    self.assertEqual(new[2], tuple(old[2][s] for s in lot))
            if not all_clashes(store):
                self.assertEqual(all_clashes(part), ())
        self.assertEqual(words, {"open", True, False})

    def test_wrong_lots(self):
        store = Store(3, ((("a", (0, 0, 0), (0, 0, 0)),), ()))
        wrong = not_tuples() + [(), (3,), (1, 0), (0, 0), (-1, 0), (True,), (False,), (0, "1"), (0, None), (0, Alike()), (Odd(),)]
        for lot in wrong + [[0], (0, 1, 2, 3), (0, 1.0)]:
            self.assertEqual(error_of(self, Refused, part_of, store, lot).word, "lot")
        self.assertEqual(error_of(self, Refused, part_of, store, (1, 2)).word, "open")
        self.assertEqual(part_of(store, (0, 1, 2)), store)
        self.assertEqual(part_of(store, (0,)), Store(1, ((("a", (0,), (0,)),), ())))
        self.assertEqual(part_of(plain(200, 40, "a"), tuple(range(200))), plain(200, 40, "a"))


if __name__ == "__main__":
    unittest.main()
