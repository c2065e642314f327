"""[36] to [39]: what only one office changes, what answers tell, and stores over a view."""

import itertools
import random
import unittest

from sharedunseen import own
from sharedunseen.errors import Refused
from sharedunseen.steady import answers_hold, is_steady, steady_view
from sharedunseen.stores import Store
from sharedunseen.views import is_blind, is_finer, refinement
from tests.sorts import all_sorts, is_reversible, is_smooth, is_unseen, runs_up_to, whole_stores
from tests.support import all_ops, big_store, done, error_of, errors_in_order, many_stores, names_in, not_numbers, not_tuples
from tests.support import product_store, refused, wrong_lots, wrong_numbers, wrong_states
from tests.test_homes import lots_of
from tests.test_joins import finest
from tests.test_shared import BOTH, ONEWAY, SEEN, others_of
from tests.test_steady import views

GOOD = Store(3, ((("a", (1, 2, 0), (0, 0, 2)),), (("b", (1, 2, 0), (0, 0, 1)),), (("c", (0, 1, 2), (0, 0, 0)),)))
WRONG_VIEWS = [(value, ("InvalidView", -1)) for value in not_tuples() + [(), (0, 0), (0, 0, 0, 0)]]
WRONG_VIEWS += [((0, item, None), ("InvalidView", 1)) for item in not_numbers() + [2]] + [((1, 0, 0), ("InvalidView", 0))]
LOTS = [(value, told) for value, told in wrong_lots("offices", (3,)) if value is not None]


def is_carried_by_words(store, view, offices):
    for name in names_in(store, offices):
        ends = all_ops(store)[name][1]
        if any(view[s] == view[t] and view[ends[s]] != view[ends[t]] for s in range(store.size) for t in range(s)):
            return False
    return True


def is_told_by_words(store, view, offices):
    for name in names_in(store, offices):
        told = all_ops(store)[name][2]
        if any(view[s] == view[t] and told[s] != told[t] for s in range(store.size) for t in range(s)):
            return False
    return True


def lots_and_none(store):
    return lots_of(len(store.offices)) + [None]


def small_stores(seed, many, size=5):
    return [store for store in all_sorts(seed, many) if store.size <= size]


class OwnViewTest(unittest.TestCase):

    def test_finest_blind_view(self):
        for store in small_stores(741, 200):
            for office in range(len(store.offices)):
                expected = finest(store.size, lambda view: all(
                    view[ends[s]] == view[s] for k in others_of(store, office)
                    for _, ends, _ in store.offices[k] for s in range(store.size)))
                self.assertEqual(own.own_view(store, office), expected)

    def test_smooth_stores(self):
        """There the own view is carried by the own operations and is the steady view; unseen: answers hang on it."""
        for store in all_sorts(742, 200):
            for office in range(len(store.offices)):
                view = own.own_view(store, office)
                if is_smooth(store):
                    self.assertIs(own.is_carried(store, view, (office,)), True)
                    self.assertEqual(view, steady_view(store, office))
                if is_unseen(store):
                    self.assertTrue(is_told_by_words(store, view, (office,)))
                    self.assertIs(is_steady(store, office, view), True)

    def test_is_carried(self):
        verdicts = [0, 0]
        for store in small_stores(743, 100, 4):
            for view in views(store.size):
                for offices in lots_and_none(store):
                    expected = is_carried_by_words(store, view, offices)
                    self.assertIs(own.is_carried(store, view, offices), expected)
                    verdicts[expected] += 1
                self.assertIs(own.is_carried(store=store, view=view), expected)
        self.assertGreater(min(verdicts), 200)

    def test_errors(self):
        for store in (GOOD, Store(3, GOOD.offices[:1] + ((("b", (0, 0, 0), (0, 0, 1)),), ()))):
            errors_in_order(self, own.own_view, {"store": store, "office": 2}, [("office", wrong_numbers("office", 3))])
            errors_in_order(self, own.is_carried, {"store": store, "view": (0, 1, 2), "offices": (0, 2)},
                            [("view", WRONG_VIEWS), ("offices", LOTS)])


class LeastViewTest(unittest.TestCase):

    def test_all_views_tried(self):
        """The coarsest one that is carried and on which answers hang: told by all runs."""
        for store in small_stores(744, 160):
            for offices in lots_and_none(store):
                least = own.least_view(store, offices)
                fitting = [view for view in views(store.size)
                           if is_carried_by_words(store, view, offices) and is_told_by_words(store, view, offices)]
                self.assertIn(least, fitting)
                self.assertTrue(all(is_finer(view, least) for view in fitting))
            self.assertEqual(own.least_view(store=store), least)

    def test_runs(self):
        for store in small_stores(745, 60, 4):
            for offices in lots_and_none(store):
                runs = runs_up_to(names_in(store, offices), 3)
                told = [tuple(done(store, s, run)[1] for run in runs) for s in range(store.size)]
                least = own.least_view(store, offices)
                for s, t in itertools.product(range(store.size), repeat=2):
                    self.assertIs(least[s] == least[t], told[s] == told[t])

    def test_telling_run(self):
        """All runs tried, shorter ones first."""
        lengths = set()
        for store in small_stores(746, 120, 4):
            for offices in [None] + random.Random(store.size).sample(lots_of(len(store.offices)), 2):
                runs = runs_up_to(names_in(store, offices), 3)
                least = own.least_view(store, offices)
                for one, other in itertools.product(range(store.size), repeat=2):
                    found = own.telling_run(store, one, other, offices)
                    self.assertIs(found is None, least[one] == least[other])
                    telling = [run for run in runs if done(store, one, run)[1] != done(store, other, run)[1]]
                    self.assertEqual(found, telling[0] if telling else None)
                    if found is not None:
                        first, second = done(store, one, found)[1], done(store, other, found)[1]
                        self.assertEqual(first[:-1], second[:-1])
                        self.assertLess(len(found), max(least) + 1)
                        lengths.add(len(found))
        self.assertEqual(lengths, {1, 2, 3})

    def test_errors(self):
        errors_in_order(self, own.least_view, {"store": GOOD, "offices": (0, 2)}, [("offices", LOTS)])
        errors_in_order(self, own.telling_run, {"store": GOOD, "one": 0, "other": 2, "offices": (1,)},
                        [("one", wrong_states(3)), ("other", wrong_states(3)), ("offices", LOTS)])

    def test_edges(self):
        one = Store(1, ((), ()))
        self.assertEqual((own.own_view(one, 1), own.least_view(one), own.least_view(one, ())), ((0,), (0,), (0,)))
        self.assertIsNone(own.telling_run(one, 0, 0))
        self.assertEqual(own.least_view(GOOD, ()), (0, 0, 0))
        self.assertIsNone(own.telling_run(GOOD, 0, 1, ()))
        line = Store(200, ((("go", tuple(min(s + 1, 199) for s in range(200)), (0,) * 198 + (1, 0)),), ()))
        self.assertEqual(own.least_view(line), tuple(range(200)))
        self.assertEqual(own.telling_run(line, 0, 199), ("go",) * 199)
        self.assertEqual(own.least_view(big_store()), tuple(range(200)))
        self.assertEqual(len(own.telling_run(big_store(), 0, 100)), 1)
        self.assertEqual(own.own_view(big_store(), 0), (0,) * 200)


class StoresTest(unittest.TestCase):

    def test_seen_store(self):
        verdicts = [0, 0]
        for store in small_stores(747, 80, 4):
            for view in views(store.size):
                for offices in lots_and_none(store):
                    good = is_carried_by_words(store, view, offices) and is_told_by_words(store, view, offices)
                    verdicts[good] += 1
                    if good:
                        self.check(store, view, offices, own.seen_store(store, view, offices))
                    else:
                        self.assertEqual(error_of(self, Refused, own.seen_store, store, view, offices).word, "view")
        self.assertGreater(min(verdicts), 200)

    def check(self, store, view, offices, made):
        self.assertEqual((made.size, len(made.offices)), (max(view) + 1, len(store.offices)))
        for k, row in enumerate(store.offices):
            known = offices is None or k in offices
            self.assertEqual([op[0] for op in made.offices[k]], [op[0] for op in row] if known else [])
            for (_, ends, told), (_, old_ends, old_told) in zip(made.offices[k], row):
                for s in range(store.size):
                    self.assertEqual((ends[view[s]], told[view[s]]), (view[old_ends[s]], old_told[s]))

    def test_own_store(self):
        refusals = 0
        for store in all_sorts(748, 200):
            for office in range(len(store.offices)):
                view = own.own_view(store, office)
                if is_carried_by_words(store, view, (office,)) and is_told_by_words(store, view, (office,)):
                    made = own.own_store(store, office)
                    self.check(store, view, (office,), made)
                else:
                    self.assertEqual(error_of(self, Refused, own.own_store, store, office).word, "view")
                    refusals += 1
        self.assertGreater(refusals, 30)
        errors_in_order(self, own.own_store, {"store": GOOD, "office": 2}, [("office", wrong_numbers("office", 3))])

    def test_least_store(self):
        for store in all_sorts(749, 150):
            for offices in lots_and_none(store):
                made = own.least_store(store, offices)
                self.check(store, own.least_view(store, offices), offices, made)
                self.assertEqual(own.least_store(made, offices), made)
            self.assertEqual(own.least_store(store=store), made)
        errors_in_order(self, own.least_store, {"store": GOOD, "offices": None}, [("offices", LOTS)])

    def test_no_smaller_store(self):
        """All stores of two states and one operation tried for a store that is told by three numbers."""
        store = Store(4, ((("a", (1, 2, 2, 2), (0, 0, 1, 1)),), ()))
        self.assertEqual(own.least_store(store).size, 3)
        runs = runs_up_to(["a"], 4)
        for ends, told in itertools.product(itertools.product(range(2), repeat=2), repeat=2):
            small = Store(2, ((("a", ends, told),), ()))
            answers = [[done(small, s, run)[1] for run in runs] for s in range(2)]
            self.assertFalse(all([done(store, s, run)[1] for run in runs] in answers for s in range(4)))

    def test_errors(self):
        errors_in_order(self, own.seen_store, {"store": GOOD, "view": (0, 1, 2), "offices": (0, 2)}, [
            ("view", WRONG_VIEWS), ("offices", LOTS), ("view", refused("view", (0, 0, 1), (0, 1, 1), (0, 0, 0)))])
        self.assertEqual(own.seen_store(GOOD, (0, 0, 1), (2,)).offices, ((), (), (("c", (0, 1), (0, 0)),)))
        self.assertEqual(own.seen_store(store=GOOD, view=(0, 0, 0), offices=()).offices, ((), (), ()))
        self.assertEqual(own.seen_store(big_store(), tuple(range(200))), big_store())


class TogetherTest(unittest.TestCase):

    def test_answers_hold(self):
        """In any store exactly if the least view of the office is blind to the others."""
        verdicts = [0, 0]
        for store in all_sorts(751, 300):
            for office in range(len(store.offices)):
                view = own.least_view(store, (office,))
                blind = all(is_blind(store, view, k) for k in others_of(store, office))
                self.assertIs(answers_hold(store, office=office), blind)
                verdicts[blind] += 1
        self.assertGreater(min(verdicts), 50)

    def test_between(self):
        """Any view of this kind is coarser than the own view and finer than the least one."""
        many = 0
        for store in small_stores(752, 150, 4):
            for office in range(len(store.offices)):
                for view in views(store.size):
                    kept = all(is_blind(store, view, k) for k in others_of(store, office))
                    if kept and is_carried_by_words(store, view, (office,)) and is_told_by_words(store, view, (office,)):
                        self.assertTrue(is_finer(own.own_view(store, office), view))
                        self.assertTrue(is_finer(view, own.least_view(store, (office,))))
                        many += 1
        self.assertGreater(many, 100)

    def test_unseen_stores(self):
        rng = random.Random(753)
        stores = [product_store(rng, offices=rng.randrange(2, 4)) for _ in range(60)]
        stores += list(whole_stores(754, 40)) + list(whole_stores(755, 30, offices=3)) + list(many_stores(756, 100))
        reversible = set()
        for store in stores:
            if not is_unseen(store):
                continue
            least = [own.least_view(store, (office,)) for office in range(len(store.offices))]
            both = least[0]
            product = max(least[0]) + 1
            for view in least[1:]:
                both = refinement(both, view)
                product *= max(view) + 1
            self.assertEqual(own.least_view(store), both)
            if is_reversible(store):
                self.assertEqual(max(both) + 1, product)
                reversible.add(product)
        self.assertTrue({1, 2, 4, 6} <= reversible, reversible)

    def test_any_sort(self):
        for store in (SEEN, ONEWAY, BOTH):
            self.assertEqual(own.own_view(store, 0), (0, 1) if store == ONEWAY or store == BOTH else (0, 0))
            self.assertEqual(own.own_view(store, 1), (0, 0))


if __name__ == "__main__":
    unittest.main()
