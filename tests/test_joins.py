"""[81]: operations and offices joined until nothing clashes, parted and left out."""

import itertools
import random
import unittest

from sharedunseen import joins
from sharedunseen.beside import side_by_side
from sharedunseen.clashes import all_clashes
from sharedunseen.errors import Refused
from sharedunseen.shared import measure
from sharedunseen.stores import Store
from tests.sorts import all_sorts, is_reversible, is_unseen, random_part_store, whole_stores
from tests.support import Alike, Odd, Touchy, all_ops, big_store, error_of, errors_in_order, many_stores, names_in
from tests.support import not_names, not_tuples, refused, wrong_lots
from tests.test_homes import lots_of, reach_by_words
from tests.test_shared import BOTH, ONEWAY, SEEN
from tests.test_steady import views

GOOD = Store(2, ((("a", (1, 0), (0, 0)),), (("b", (1, 0), (0, 0)),), (("c", (1, 0), (3, 3)),)))
SEEN_THREE, ONEWAY_THREE, BOTH_THREE = [Store(2, store.offices + ((),)) for store in (SEEN, ONEWAY, BOTH)]
REFUSED = refused("seen", SEEN_THREE, BOTH_THREE) + refused("oneway", ONEWAY_THREE)


def clash_anywhere(store, one, other):
    """Whether two operations would clash at some state as operations of two offices, by [3]."""
    ops = all_ops(store)
    _, first, told = ops[one]
    _, second, heard = ops[other]
    for state in range(store.size):
        if second[first[state]] != first[second[state]]:
            return True
        if told[second[state]] != told[state] or heard[first[state]] != heard[state]:
            return True
    return False


def finest(size, fits):
    """The finest of all partings of so many things that fit, as a view."""
    fitting = [view for view in views(size) if fits(view)]
    best = max(fitting, key=lambda view: len(set(view)))
    for view in fitting:
        for one, other in itertools.combinations(range(size), 2):
            if best[one] == best[other] and view[one] != view[other]:
                raise AssertionError("no finest parting")
    return best


def homes_by_words(store, offices):
    """The joint homes of some offices, as a set of sets of states."""
    reach = reach_by_words(store, offices)
    return {frozenset(t for t in reach[s] if s in reach[t]) for s in range(store.size)}


class BundlesTest(unittest.TestCase):

    def test_all_partings_tried(self):
        seen = set()
        for store in all_sorts(601, 160):
            names = names_in(store)
            if len(names) > 6:
                continue
            linked = [(i, j) for j in range(len(names)) for i in range(j) if clash_anywhere(store, names[i], names[j])]
            view = finest(len(names), lambda view: all(view[i] == view[j] for i, j in linked))
            expected = [tuple(n for n, k in zip(names, view) if k == number) for number in sorted(set(view))]
            self.assertEqual(joins.bundles(store), tuple(sorted(expected)))
            seen.add(tuple(len(lot) for lot in expected))
        self.assertTrue({(), (1,), (2,), (1, 1), (2, 1), (1, 2), (3,), (1, 1, 1)} <= seen)

    def test_one_office(self):
        """Operations of one office are linked, too."""
        store = Store(2, ((("b", (0, 0), (0, 0)), ("a", (1, 1), (0, 0)), ("c", (0, 1), (0, 0))), ()))
        self.assertEqual(joins.bundles(store=store), (("a", "b"), ("c",)))
        self.assertEqual(joins.bundles(Store(1, ((), ()))), ())

    def test_big(self):
        names = names_in(big_store())
        self.assertEqual(joins.bundles(big_store()), (tuple(names),))
        quiet = Store(200, tuple(tuple((n, e, (0,) * 200) for n, e, _ in row) for row in big_store().offices))
        self.assertEqual(joins.bundles(quiet), tuple((name,) for name in names))


class RegroupedTest(unittest.TestCase):

    def test_unseen_exactly_if_no_bundle_is_parted(self):
        rng = random.Random(602)
        verdicts = set()
        for store in all_sorts(603, 200):
            table = {op[0]: op for row in store.offices for op in row}
            bundles = joins.bundles(store)
            for _ in range(3):
                groups = [[] for _ in range(rng.randrange(2, 5))]
                lots = bundles if rng.randrange(2) else [(name,) for name in table]
                for lot in lots:
                    rng.choice(groups).extend(lot)
                for group in groups:
                    rng.shuffle(group)
                value = tuple(tuple(group) for group in groups)
                made = joins.regrouped(store, value)
                self.assertEqual(made.size, store.size)
                self.assertEqual(made.offices, tuple(tuple(table[name] for name in group) for group in groups))
                parted = any(len([g for g in groups if set(g) & set(lot)]) > 1 for lot in bundles)
                self.assertIs(is_unseen(made), not parted)
                verdicts.add((parted, is_unseen(store)))
        self.assertEqual(len(verdicts), 4)

    def test_groups(self):
        ops = {op[0]: op for row in GOOD.offices for op in row}
        groups = (("c", "a"), (), ("b",))
        made = joins.regrouped(store=GOOD, groups=groups)
        self.assertEqual(made.offices, ((ops["c"], ops["a"]), (), (ops["b"],)))
        self.assertEqual(joins.regrouped(Store(2, ((), ())), ((),) * 8).offices, ((),) * 8)
        every = tuple((name,) for name in names_in(big_store())[:7]) + (tuple(names_in(big_store())[7:]),)
        self.assertEqual(len(joins.regrouped(big_store(), every).offices[7]), 33)

    def test_wrong_groups(self):
        wrong = not_tuples() + [(), (("a", "b", "c"),), (("a",), ("b",)), (("a",), ("b", "c", "a")), (("a", "a"), ("b", "c")), (("a", "a"), ("b",))]
        wrong += [(("a",), (item, "b", "c")) for item in (Alike(), Odd(), Touchy())]
        wrong += [(("a",), ("b",), ("c",), ("c",)), ((), (), ()), (("a", "b"), ["c"]), [("a",), ("b", "c")]]
        wrong += [(("a", "b"), ("c", "d")), (("a", "b", "c"),) + ((),) * 8, (("a", "b"), "c"), ("a", "b", "c")]
        wrong += [(("a", "b"), ("c",), value) for value in not_tuples()] + [(value, ("a", "b", "c")) for value in not_tuples()]
        wrong += [(("a", "b"), (item,)) for item in not_names()] + [(("a", "b"), ("c", item)) for item in not_names()]
        for store in (GOOD, Store(2, SEEN.offices + ((("c", (0, 0), (0, 0)),),))):
            for groups in wrong:
                self.assertEqual(error_of(self, Refused, joins.regrouped, store, groups).word, "groups")
        self.assertEqual(error_of(self, Refused, joins.regrouped, Store(1, ((), ())), ((),)).word, "groups")


class MustJoinTest(unittest.TestCase):

    def test_all_joinings_tried(self):
        seen = set()
        for store in list(all_sorts(604, 200)) + list(many_stores(605, 150, offices=(3, 6), operations=(0, 2))):
            offices = len(store.offices)
            clashing = {(j, k) for k in range(offices) for j in range(k) for one, _, _ in store.offices[j]
                        for other, _, _ in store.offices[k] if clash_anywhere(store, one, other)}
            expected = finest(offices, lambda view: all(view[j] == view[k] for j, k in clashing))
            self.assertEqual(joins.must_join(store), expected)
            groups = [sum((store.offices[k] for k in range(offices) if expected[k] == g), ()) for g in set(expected)]
            self.assertEqual(all_clashes(Store(store.size, tuple(groups + [()]))), ())
            seen.add(expected)
        self.assertTrue({(0, 1), (0, 0), (0, 1, 1), (0, 0, 1), (0, 1, 0), (0, 1, 2), (0, 0, 0)} <= seen)
        first = Store(2, ((("a", (1, 1), (0, 0)),), (), (("b", (0, 0), (0, 0)),), ()))
        second = Store(2, ((), (("c", (1, 1), (0, 0)),), (), (("d", (0, 0), (0, 0)),)))
        self.assertEqual(joins.must_join(side_by_side(first, second)), (0, 1, 0, 1))

    def test_one_office_does_not_clash_with_itself(self):
        store = Store(2, ((("b", (0, 0), (0, 0)), ("a", (1, 1), (0, 0))), (), ()))
        self.assertEqual(joins.must_join(store=store), (0, 1, 2))
        self.assertEqual(joins.must_join(big_store()), (0,) * 8)


class CountsTest(unittest.TestCase):

    def stores(self, seed):
        yield from whole_stores(seed, 40)
        yield from whole_stores(seed + 1, 40, offices=3)
        yield from whole_stores(seed + 2, 20, offices=4, most=2, size=24)

    def test_part_counts(self):
        sizes = set()
        for store in self.stores(606):
            every = range(len(store.offices))
            told = joins.part_counts(store)
            expected = {lot: len(homes_by_words(store, [k for k in every if k not in lot])) for lot in lots_of(len(every))}
            self.assertEqual(told, expected)
            self.assertEqual(list(told), sorted(told))
            self.assertEqual((told[()], told[tuple(every)]), (1, store.size))
            told.clear()
            self.assertEqual(joins.part_counts(store), expected)
            sizes.add(tuple(expected.values()))
        self.assertGreater(len(sizes), 25)

    def test_shared_count(self):
        seen = set()
        for store in self.stores(611):
            counts = joins.part_counts(store)
            for one in lots_of(len(store.offices)):
                rest = [k for k in range(len(store.offices)) if k not in one]
                for other in [tuple(rest[k] for k in lot) for lot in lots_of(len(rest))]:
                    both = tuple(sorted(one + other))
                    many = joins.shared_count(store, one, other)
                    self.assertEqual(many * counts[one] * counts[other], counts[both])
                    self.assertEqual(many, joins.shared_count(store, other, one))
                    seen.add(many)
            self.assertEqual(joins.shared_count(store, (0,), (1,)), measure(store)[1] if len(store.offices) == 2 else
                             joins.shared_count(store, (1,), (0,)))
        self.assertTrue({1, 2, 3, 4, 6} <= seen)

    def test_errors(self):
        errors_in_order(self, joins.part_counts, {"store": GOOD}, [("store", REFUSED)])
        good = {"store": GOOD, "one": (0,), "other": (1, 2)}
        both = [((0, 1), ("InvalidNumber", "other")), ((0,), ("InvalidNumber", "other")), ((0, 1, 2), ("InvalidNumber", "other"))]
        errors_in_order(self, joins.shared_count, good,
                        [("one", wrong_lots("one", (3,))), ("other", wrong_lots("other", (3,)) + both), ("store", REFUSED)])
        self.assertEqual(joins.shared_count(GOOD, (), (0, 1, 2)), 1)
        self.assertEqual(joins.shared_count(GOOD, (), ()), 1)
        self.assertEqual(error_of(self, Refused, joins.part_counts, big_store()).word, "seen")

    def test_big(self):
        quiet = Store(200, tuple(tuple((n, e, (0,) * 200) for n, e, _ in row) for row in big_store().offices))
        counts = joins.part_counts(quiet)
        self.assertEqual(len(counts), 256)
        self.assertEqual((counts[()], counts[(0,)], counts[tuple(range(7))], counts[tuple(range(8))]), (1, 1, 8, 200))
        self.assertEqual(joins.shared_count(quiet, (0, 1, 2), (3, 4, 5, 6)), 8)
        self.assertEqual(joins.shared_count(quiet, (0, 1, 2), (3, 4, 5, 6, 7)), 200)


class FoldedTest(unittest.TestCase):

    def test_by_its_words(self):
        """In unseen stores, reversible and one-way ones."""
        rng = random.Random(621)
        sorts = set()
        for _ in range(150):
            store = random_part_store(rng, rng.randrange(2, 5), size=24)
            ops = all_ops(store)
            for offices in lots_of(len(store.offices)):
                rest = [k for k in range(len(store.offices)) if k not in offices]
                if len(rest) < 2:
                    self.assertEqual(error_of(self, Refused, joins.folded, store, offices).word, "offices")
                    continue
                homes = sorted(homes_by_words(store, offices), key=min)
                number = {state: k for k, home in enumerate(homes) for state in home}
                made = joins.folded(store, offices)
                self.assertEqual(made.size, len(homes))
                self.assertEqual([[op[0] for op in row] for row in made.offices],
                                 [[op[0] for op in store.offices[k]] for k in rest])
                for name, (_, ends, told) in all_ops(made).items():
                    for state in range(store.size):
                        self.assertEqual(ends[number[state]], number[ops[name][1][state]])
                        self.assertEqual(told[number[state]], ops[name][2][state])
                sorts.add((is_reversible(store), made.size < store.size))
        self.assertEqual(len(sorts), 4)

    def test_cells_of_the_regrouped(self):
        """If the others are regrouped to two offices, cells have as many states as `shared_count` tells."""
        found = set()
        for store in itertools.chain(whole_stores(622, 60, offices=3), whole_stores(623, 20, offices=4, most=2, size=24)):
            every = range(len(store.offices))
            for one in lots_of(len(every))[1:]:
                for other in lots_of(len(every))[1:]:
                    if set(one) & set(other):
                        continue
                    lot = tuple(k for k in every if k not in one + other)
                    made = joins.folded(store, lot)
                    groups = tuple(tuple(name for name in names_in(store, part)) for part in (one, other))
                    cell = measure(joins.regrouped(made, groups))[1]
                    self.assertEqual(cell, joins.shared_count(store, one, other))
                    found.add((len(lot), cell))
        self.assertTrue({(0, 1), (0, 2), (0, 3), (1, 1), (1, 2), (1, 3), (2, 1), (2, 2)} <= found)

    def test_errors(self):
        good = {"store": GOOD, "offices": (1,)}
        few = refused("offices", (0, 1), (0, 2), (0, 1, 2))
        errors_in_order(self, joins.folded, good,
                        [("offices", wrong_lots("offices", (3,), None)), ("offices", few), ("store", refused("seen", SEEN_THREE, BOTH_THREE))])
        self.assertEqual(joins.folded(ONEWAY_THREE, ()), ONEWAY_THREE)
        self.assertEqual(joins.folded(store=ONEWAY_THREE, offices=(2,)), ONEWAY)
        self.assertEqual(error_of(self, Refused, joins.folded, SEEN, (0,)).word, "offices")
        self.assertEqual(joins.folded(Store(1, ((), ())), ()), Store(1, ((), ())))

    def test_big(self):
        quiet = Store(200, tuple(tuple((n, e, (0,) * 200) for n, e, _ in row) for row in big_store().offices))
        made = joins.folded(quiet, (3,))
        self.assertEqual((made.size, len(made.offices), len(made.names())), (4, 7, 35))


if __name__ == "__main__":
    unittest.main()
