"""[33], [34], [35]: views, and those that are blind to some offices."""

import itertools
import random
import unittest

from sharedunseen import views
from sharedunseen.errors import InvalidNumber, InvalidView
from sharedunseen.homes import joint_homes
from sharedunseen.stores import Store
from tests.sorts import is_reversible, is_smooth, smooth_stores
from tests.support import Alike, Odd, Touchy, big_store, error_of, many_stores, not_numbers, not_tuples
from tests.test_homes import lots_of
from tests.test_steady import views as all_views

STORE = Store(3, ((("a", (1, 0, 2), (0, 0, 0)),), (("b", (0, 1, 1), (0, 0, 0)),)))
EMPTY = Store(200, ((), ()))


def is_blind_by_words(store, view, offices):
    return all(view[ends[s]] == view[s] for k in offices for _, ends, _ in store.offices[k] for s in range(store.size))


def finer(one, other):
    return all(other[s] == other[t] for s in range(len(one)) for t in range(s) if one[s] == one[t])


def wrong_views():
    """Pairs of a value that is no view of STORE, and the `at` of the error."""
    found = [(value, -1) for value in not_tuples()] + [((), -1), ((0, 0), -1), ((0, 0, 0, 0), -1), ([0, 1, 2], -1)]
    for at in range(3):
        for item in not_numbers() + [at + 1, at + 2, 10 ** 30]:
            view = [0, 1, 2]
            view[at] = item
            found.append((tuple(view), at))
    return found + [((0, 2, 3), 1), ((1, 0, 0), 0), ((0, 0, 2), 2), ((0, 1, 3), 2), ((0, True, 2), 1), ((None, 5, 9), 0)]


def wrong_offices():
    rest = [(2,), (1, 0), (1, 1), (-1,), (True,), ("0",), (0, None), (0, Alike()), (Odd(),), (Touchy(),), [0]]
    return [value for value in not_tuples() if value is not None] + rest


class ViewsTest(unittest.TestCase):

    def test_check_view(self):
        for size in range(1, 5):
            store = Store(size, ((), ()))
            good = all_views(size)
            for value in itertools.product(range(-1, size + 1), repeat=size):
                if value in good:
                    self.assertIsNone(views.check_view(store=store, value=value))
                else:
                    at = [k for k in range(size) if value[:k + 1] not in all_views(k + 1)][0]
                    self.assertEqual(error_of(self, InvalidView, views.check_view, store, value).at, at)

    def test_wrong_views(self):
        for value, at in wrong_views():
            self.assertEqual(error_of(self, InvalidView, views.check_view, STORE, value).at, at)
            self.assertEqual(error_of(self, InvalidView, views.is_blind, STORE, value, 9).at, at)
            self.assertEqual(error_of(self, InvalidView, views.blind_offices, STORE, value).at, at)
            self.assertEqual(error_of(self, InvalidView, views.place_of_blind_view, STORE, (0,), value).at, at)
        error = error_of(self, InvalidView, views.check_view, EMPTY, tuple(range(199)) + (200,))
        self.assertEqual(error.at, 199)

    def test_view_of(self):
        for things in itertools.product((-5, 0, 10 ** 20), repeat=3):
            view = views.view_of(STORE, things)
            self.assertIn(view, all_views(3))
            self.assertTrue(all((view[s] == view[t]) == (things[s] == things[t]) for s in range(3) for t in range(3)))
        wrong = [(value, -1) for value in not_tuples()] + [((), -1), ((0, 0), -1), ((0, 0, 0, 0), -1), ([0, 1, 2], -1)]
        for at in range(3):
            for item in [None, True, False, "0", 1.0, (), (0,), [], {}, Odd(), Alike(), Touchy()]:
                things = [7, 7, -7]
                things[at] = item
                wrong.append((tuple(things), at))
        for things, at in wrong + [((0, None, True), 1)]:
            self.assertEqual(error_of(self, InvalidView, views.view_of, STORE, things).at, at)
        self.assertEqual(views.view_of(store=STORE, things=(3, -1, 3)), (0, 1, 0))

    def test_finer_and_coarser(self):
        for size in range(1, 5):
            every = all_views(size)
            for one, other in itertools.product(every, repeat=2):
                self.assertIs(views.is_finer(one, other), finer(one, other))
                both = [view for view in every if finer(view, one) and finer(view, other)]
                self.assertEqual(views.refinement(one, other), min(both, key=max) if len(both) == 1 else
                                 [view for view in both if all(finer(less, view) for less in both)][0])
                over = [view for view in every if finer(one, view) and finer(other, view)]
                self.assertEqual(views.merged_view(one, other), [view for view in over if all(finer(view, more) for more in over)][0])
        self.assertIs(views.is_finer(one=(0,), other=(0,)), True)
        self.assertEqual(views.refinement(one=(0, 0, 1), other=(0, 1, 1)), (0, 1, 2))
        self.assertEqual(views.merged_view(one=(0, 0, 1), other=(0, 1, 1)), (0, 0, 0))

    def test_long_views(self):
        one = tuple(k // 2 for k in range(200))
        other = tuple((k + 1) // 2 for k in range(200))
        self.assertEqual(views.merged_view(one, other), (0,) * 200)
        self.assertEqual(views.refinement(one, other), tuple(range(200)))


class BlindTest(unittest.TestCase):

    def test_all_views_tried(self):
        for store in many_stores(301, 120, sizes=(1, 6), operations=(0, 3)):
            every = all_views(store.size)
            for view in every:
                blind = [k for k in range(len(store.offices)) if is_blind_by_words(store, view, [k])]
                self.assertEqual(views.blind_offices(store, view), tuple(blind))
                for office in range(len(store.offices)):
                    self.assertIs(views.is_blind(store, view, office), office in blind)
            for offices in lots_of(len(store.offices)):
                fitting = [view for view in every if is_blind_by_words(store, view, offices)]
                finest = views.blind_view(store, offices)
                self.assertEqual(fitting, [view for view in every if finer(finest, view)])
                self.check_numbers(store, offices, fitting)
            whole = tuple(range(len(store.offices)))
            self.assertEqual(views.blind_view(store, None), views.blind_view(store, whole))
            self.assertEqual(views.count_blind_views(store, None), views.count_blind_views(store, whole))

    def check_numbers(self, store, offices, fitting):
        self.assertEqual(views.count_blind_views(store, offices), len(fitting))
        for number, view in enumerate(sorted(fitting)):
            self.assertEqual(views.blind_view_at(store, offices, number), view)
            self.assertEqual(views.place_of_blind_view(store, offices, view), number)
        self.assertEqual(error_of(self, InvalidNumber, views.blind_view_at, store, offices, len(fitting)).word, "number")
        for view in all_views(store.size):
            if view not in fitting:
                self.assertIsNone(views.place_of_blind_view(store, offices, view))

    def test_smooth_reversible_stores(self):
        many = 0
        for store in smooth_stores(302, 150):
            self.assertTrue(is_smooth(store))
            if is_reversible(store):
                for offices in lots_of(len(store.offices)):
                    self.assertEqual(views.blind_view(store, offices), joint_homes(store, offices))
                many += store.size > 3
        self.assertGreater(many, 20)

    def test_errors_in_order(self):
        for office in not_numbers() + [2]:
            self.assertEqual(error_of(self, InvalidNumber, views.is_blind, STORE, (0, 0, 0), office).word, "office")
        for offices in wrong_offices():
            for call in (views.blind_view, views.count_blind_views):
                self.assertEqual(error_of(self, InvalidNumber, call, STORE, offices).word, "offices")
            for call in (views.blind_view_at, views.place_of_blind_view):
                self.assertEqual(error_of(self, InvalidNumber, call, STORE, offices, None).word, "offices")
        for number in not_numbers() + [5, 10 ** 300]:
            self.assertEqual(error_of(self, InvalidNumber, views.blind_view_at, STORE, (), number).word, "number")
        self.assertEqual(views.blind_view_at(store=STORE, offices=(), number=4), (0, 1, 2))
        self.assertEqual(views.place_of_blind_view(store=STORE, offices=(), view=(0, 1, 2)), 4)
        self.assertIsNone(views.place_of_blind_view(STORE, (0,), (0, 1, 2)))
        self.assertEqual(views.place_of_blind_view(STORE, None, (0, 0, 0)), 0)

    def test_big(self):
        row = [1]
        for _ in range(199):
            fresh = [row[-1]]
            for item in row:
                fresh.append(fresh[-1] + item)
            row = fresh
        bell = row[-1]
        self.assertEqual(views.count_blind_views(EMPTY, (0, 1)), bell)
        self.assertEqual(views.blind_view_at(EMPTY, (), 0), (0,) * 200)
        self.assertEqual(views.blind_view_at(EMPTY, (), bell - 1), tuple(range(200)))
        self.assertEqual(views.place_of_blind_view(EMPTY, (), tuple(range(200))), bell - 1)
        error_of(self, InvalidNumber, views.blind_view_at, EMPTY, (), bell)
        rng = random.Random(303)
        for _ in range(20):
            number = rng.randrange(bell)
            view = views.blind_view_at(EMPTY, None, number)
            self.assertEqual(views.place_of_blind_view(EMPTY, None, view), number)
        self.assertEqual(views.blind_view(big_store(), (3,)), tuple(range(4)) * 50)
        self.assertEqual(views.count_blind_views(big_store(), (3,)), 15)
        self.assertEqual(views.blind_view_at(big_store(), (3,), 14), tuple(range(4)) * 50)


if __name__ == "__main__":
    unittest.main()
