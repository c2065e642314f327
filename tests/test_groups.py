"""[40] to [42]: tables of groups."""

import itertools
import random
import unittest

from sharedunseen import groups
from sharedunseen.errors import InvalidNumber, InvalidTable, Refused
from tests.support import Alike, Odd, error_of, not_numbers, not_tuples


def ring(size):
    return tuple(tuple((i + j) % size for j in range(size)) for i in range(size))


def both(one, other):
    """The table of pairs of shares of two tables."""
    size = len(other)
    cells = [(i, j) for i in range(len(one)) for j in range(size)]
    return tuple(tuple(one[a][c] * size + other[b][d] for c, d in cells) for a, b in cells)


def orders(many):
    """The table of the orders of so many things."""
    rows = list(itertools.permutations(range(many)))
    return tuple(tuple(rows.index(tuple(one[k] for k in other)) for other in rows) for one in rows)


def mixed(table, rng):
    """The same group with its shares in another order."""
    order = [0] + rng.sample(range(1, len(table)), len(table) - 1)
    back = {share: k for k, share in enumerate(order)}
    return tuple(tuple(back[table[i][j]] for j in order) for i in order)


def quaternions():
    signs = {("1", "1"): ("1", 0), ("i", "i"): ("1", 1), ("j", "j"): ("1", 1), ("k", "k"): ("1", 1)}
    for one, other, third in ("ijk", "jki", "kij"):
        signs[(one, other)] = (third, 0)
        signs[(other, one)] = (third, 1)
    for unit in "ijk":
        signs[("1", unit)] = signs[(unit, "1")] = (unit, 0)
    cells = [(unit, sign) for unit in "1ijk" for sign in (0, 1)]
    rows = []
    for a, s in cells:
        row = []
        for b, t in cells:
            unit, sign = signs[(a, b)]
            row.append(cells.index((unit, (sign + s + t) % 2)))
        rows.append(tuple(row))
    return tuple(rows)


def dihedral(half):
    cells = [(turn, flip) for flip in (0, 1) for turn in range(half)]
    number = {cell: k for k, cell in enumerate(cells)}
    return tuple(tuple(number[((a + (-c if b else c)) % half, b ^ d)] for c, d in cells) for a, b in cells)


SMALL = [ring(1), ring(2), ring(3), ring(4), both(ring(2), ring(2)), ring(5), ring(6), orders(3)]
EIGHTS = [ring(8), both(ring(4), ring(2)), both(ring(2), both(ring(2), ring(2))), quaternions(), dihedral(4)]
WIDE = [ring(24), orders(4), both(orders(3), ring(4)), both(quaternions(), ring(3)), dihedral(12)]
WIDE += [both(ring(6), both(ring(2), ring(2))), both(ring(12), ring(2)), both(dihedral(6), ring(2))]


class CheckTableTest(unittest.TestCase):

    def fault(self, value):
        return error_of(self, InvalidTable, groups.check_table, value).at

    def fault_by_words(self, value):
        size = len(value)
        for i, row in enumerate(value):
            good = isinstance(row, tuple) and len(row) == size
            good = good and all(type(x) is int for x in row) and sorted(row) == list(range(size)) and row[0] == i
            if not good or i == 0 and row != tuple(range(size)):
                return i
        for i in range(size):
            for j in range(size):
                for k in range(size):
                    if value[value[i][j]][k] != value[i][value[j][k]]:
                        return i
        return None

    def test_tables(self):
        rng = random.Random(2)
        for table in SMALL + EIGHTS + WIDE + [ring(25), ring(200), both(orders(4), both(ring(2), ring(4)))]:
            self.assertIsNone(groups.check_table(table))
            self.assertIsNone(groups.check_table(value=mixed(table, rng)))

    def test_no_tuple_of_rows(self):
        for value in not_tuples() + [(), ring(201), [list(row) for row in ring(3)], ((),) * 201]:
            self.assertEqual(self.fault(value), -1)

    def test_rows(self):
        for at in range(4):
            row = ring(4)[at]
            wrong = not_tuples() + [(), row[:3], row + (4,), list(row), row[::-1], (row[0],) * 4, row[:3] + (4,)]
            wrong += [row[:3] + (part,) for part in (-1, None, "1", float(row[3]), [], Odd(), Alike(), (0,))]
            wrong += [tuple(bool(x) if x in (0, 1) else x for x in row), ring(4)[(at + 1) % 4]]
            for value in wrong:
                table = ring(4)[:at] + (value,) + ring(4)[at + 1:]
                self.assertEqual(self.fault(table), at)
                self.assertEqual(self.fault(table[:3] + (None,)), at)
        self.assertEqual(self.fault(((0, 2, 1), (1, 2, 0), (2, 0, 1))), 0)
        self.assertEqual(self.fault(((0, 2, 1), None, (2, 0, 1))), 0)

    def test_last_rule(self):
        rng = random.Random(4)
        broken = set()
        for _ in range(2000):
            size = rng.randrange(1, 7)
            rows = [tuple(range(size))]
            for i in range(1, size):
                rest = [k for k in range(size) if k != i]
                rows.append((i,) + tuple(rng.sample(rest, size - 1)))
            at = self.fault_by_words(tuple(rows))
            broken.add(at)
            if at is None:
                self.assertIsNone(groups.check_table(tuple(rows)))
            else:
                self.assertEqual(self.fault(tuple(rows)), at)
        self.assertTrue({None, 1, 2} <= broken)

    def test_spoilt(self):
        rng = random.Random(6)
        for table in SMALL + EIGHTS:
            for _ in range(30):
                rows = [list(row) for row in table]
                i, j, k = (rng.randrange(len(table)) for _ in range(3))
                rows[i][j], rows[i][k] = rows[i][k], rows[i][j]
                value = tuple(tuple(row) for row in rows)
                at = self.fault_by_words(value)
                if at is not None:
                    self.assertEqual(self.fault(value), at)


class ProductsTest(unittest.TestCase):

    def test_by_their_words(self):
        rng = random.Random(8)
        for table in SMALL + EIGHTS + [mixed(t, rng) for t in EIGHTS + WIDE]:
            size = len(table)
            for one in range(size):
                for two in range(size):
                    self.assertEqual(groups.times(table, one, two), table[one][two])
                back = groups.inverse(table, one)
                self.assertEqual((table[one][back], table[back][one]), (0, 0))
                powers = [0]
                while len(powers) == 1 or powers[-1] != 0:
                    powers.append(table[powers[-1]][one])
                self.assertEqual(groups.order_of(table, one), len(powers) - 1)
                for many in range(-2 * size, 2 * size):
                    self.assertEqual(groups.power(table, one, many), powers[many % (len(powers) - 1)])
            opposite = groups.opposite(table)
            self.assertTrue(all(opposite[i][j] == table[j][i] for i in range(size) for j in range(size)))
            centre = tuple(i for i in range(size) if all(table[i][j] == table[j][i] for j in range(size)))
            self.assertEqual(groups.centre(table), centre)
            self.assertIs(groups.is_commutative(table), len(centre) == size)

    def test_generated(self):
        rng = random.Random(9)
        for table in SMALL + EIGHTS + WIDE:
            for _ in range(10):
                shares = tuple(rng.randrange(len(table)) for _ in range(rng.randrange(4)))
                found = {0}
                while True:
                    fresh = found | {table[i][j] for i in found for j in shares}
                    if fresh == found:
                        break
                    found = fresh
                self.assertEqual(groups.generated(table, shares), tuple(sorted(found)))
        self.assertEqual(groups.generated(table=ring(200), shares=(10, 10, 4) * 5000), tuple(range(0, 200, 2)))
        self.assertEqual(groups.generated(ring(5), ()), (0,))

    def test_far_powers(self):
        for many in (10 ** 100, -10 ** 100, 0, 1, -1):
            self.assertEqual(groups.power(table=ring(7), one=3, many=many), 3 * many % 7)
        self.assertEqual(groups.power(ring(1), 0, 12), 0)

    def test_wrong_shares(self):
        table = orders(3)
        for share in not_numbers() + [6, 10 ** 20]:
            calls = [(groups.times, share, 0), (groups.times, 0, share), (groups.inverse, share), (groups.order_of, share)]
            calls += [(groups.power, share, 1), (groups.power, share, None), (groups.generated, (share,))]
            calls += [(groups.generated, (0, share, 9))]
            for call, *rest in calls:
                self.assertEqual(error_of(self, InvalidNumber, call, table, *rest).word, "share")
        for many in [value for value in not_numbers() if not isinstance(value, int) or isinstance(value, bool)]:
            self.assertEqual(error_of(self, InvalidNumber, groups.power, table, 0, many).word, "many")


class MatchingTest(unittest.TestCase):

    def fits(self, table, goal, value):
        shares = range(len(table))
        return all(value[table[i][j]] == goal[value[i]][value[j]] for i in shares for j in shares)

    def test_all_orders_tried(self):
        rng = random.Random(10)
        for one in SMALL:
            for other in SMALL + [mixed(one, rng) for _ in range(3)]:
                if len(one) == len(other):
                    found = [v for v in itertools.permutations(range(len(one))) if self.fits(one, other, v)]
                else:
                    found = []
                self.assertEqual(groups.matching(one, other), found[0] if found else None)
                for value in itertools.permutations(range(len(other))):
                    self.assertIs(groups.is_matching(one, other, value), value in found)

    def test_eights(self):
        rng = random.Random(12)
        for one in EIGHTS:
            for other in EIGHTS:
                goal = mixed(other, rng)
                found = groups.matching(one, goal)
                self.assertEqual(found is not None, one is other)
                if found is not None:
                    first = next(v for v in itertools.permutations(range(8)) if v[0] == 0 and self.fits(one, goal, v))
                    self.assertEqual(found, first)
                    self.assertIs(groups.is_matching(table=one, goal=goal, value=found), True)

    def test_wide(self):
        rng = random.Random(14)
        for one in WIDE:
            for other in WIDE:
                goal = mixed(other, rng)
                found = groups.matching(one, goal)
                self.assertEqual(found is not None, one is other)
                if found is not None:
                    self.assertTrue(self.fits(one, goal, found))
                    self.assertLessEqual(groups.matching(goal, goal), tuple(range(24)))
        for one, other in ((ring(25), ring(25)), (ring(24), ring(25)), (ring(200), ring(2)), (ring(1), ring(25))):
            self.assertEqual(error_of(self, Refused, groups.matching, one, other).word, "wide")
        self.assertIsNone(groups.matching(ring(24), ring(23)))
        self.assertEqual(groups.matching(table=ring(1), goal=ring(1)), (0,))
        self.assertEqual(groups.matching(ring(24), ring(24)), tuple(range(24)))

    def test_is_matching_any_value(self):
        for table in (ring(1), ring(3), orders(3), ring(200)):
            size = len(table)
            self.assertIs(groups.is_matching(table, table, tuple(range(size))), True)
            for value in not_tuples() + [(), tuple(range(1, size)), list(range(size)), (0,) * (size + 1), ("0",) * size]:
                self.assertIs(groups.is_matching(table, table, value), False)
        for part in (None, True, 1.0, "1", [], Alike(), Odd(), 3, -1, 0, 2):
            self.assertIs(groups.is_matching(ring(3), ring(3), (0, part, 2)), False)
        self.assertIs(groups.is_matching(ring(3), ring(3), (0, 2, 1)), True)
        self.assertIs(groups.is_matching(ring(3), ring(2), (0, 1, 2)), False)
        self.assertIs(groups.is_matching(ring(2), ring(3), (0, 1)), False)

    def test_inverses_match_the_opposite(self):
        for table in SMALL + EIGHTS + WIDE:
            value = tuple(groups.inverse(table, share) for share in range(len(table)))
            self.assertIs(groups.is_matching(table, groups.opposite(table), value), True)


if __name__ == "__main__":
    unittest.main()
