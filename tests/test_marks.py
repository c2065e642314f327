"""[89]: marks, by which an office takes an operation back."""

import itertools
import random
import unittest

from sharedunseen import marks
from sharedunseen.errors import InvalidRun, Refused
from sharedunseen.fuller import filled
from sharedunseen.letin import count_given
from sharedunseen.stores import Store
from tests.sorts import is_reversible, is_unseen, part_store, whole_stores
from tests.support import Alike, Odd, Touchy, all_ops, big_store, done, error_of, many_stores, names_in, not_names
from tests.support import not_tuples, odd_things
from tests.test_backs import tuples_behind
from tests.test_groups import ring
from tests.test_homes import home_by_words, reach_by_words
from tests.test_steady import views


def homes_of_others(store, office):
    """The joint homes of the others, by their least states."""
    reach = reach_by_words(store, [k for k in range(len(store.offices)) if k != office])
    homes = {min(home_by_words(reach, state)): home_by_words(reach, state) for state in range(store.size)}
    return [homes[least] for least in sorted(homes)]


def are_marks_by_words(store, name, view, runs):
    office, ends, _ = all_ops(store)[name]
    for k, row in enumerate(store.offices):
        if k != office and any(view[e[s]] != view[s] for _, e, _ in row for s in range(store.size)):
            return False
    if len(runs) != max(view) + 1 or any(set(run) - set(names_in(store, [office])) for run in runs):
        return False
    return all(done(store, ends[s], runs[view[s]])[0] == s for s in range(store.size))


def fewest_by_words(store, name):
    """The fewest numbers of a view of the homes such that one run leads all with one number back."""
    office, ends, _ = all_ops(store)[name]
    homes = homes_of_others(store, office)
    leasts = [min(home) for home in homes]
    behind = tuples_behind(store, office, tuple(ends[s] for s in leasts))
    best = None
    for view in views(len(leasts)):
        fits = all(any(all(t[k] == leasts[k] for k in range(len(leasts)) if view[k] == mark) for t in behind)
                   for mark in range(max(view) + 1))
        if fits and (best is None or max(view) + 1 < best):
            best = max(view) + 1
    return best


def is_wide(store, name):
    """Whether the document lets `least_marks` refuse."""
    office, ends, _ = all_ops(store)[name]
    homes = homes_of_others(store, office)
    return len(homes) > 6 or len(tuples_behind(store, office, tuple(ends[min(home)] for home in homes))) > 1000


def stores(seed, many):
    yield from whole_stores(seed, many, most=4)
    yield from whole_stores(seed, many // 2, offices=3, size=16)


class MarksTest(unittest.TestCase):

    def test_all_views_tried(self):
        found = set()
        for store in stores(271, 120):
            for name, (office, ends, _) in all_ops(store).items():
                if is_wide(store, name):
                    self.assertEqual(error_of(self, Refused, marks.least_marks, store, name).word, "wide")
                    continue
                told = marks.least_marks(store, name)
                self.assertIs(told.__class__, marks.Marks)
                self.assertIsInstance(told.runs, tuple)
                self.assertIn(told.view, views(store.size)) if store.size < 7 else None
                self.assertTrue(are_marks_by_words(store, name, told.view, told.runs))
                self.assertIs(marks.check_marks(store, name, told), True)
                fewest = fewest_by_words(store, name)
                self.assertEqual(max(told.view) + 1, fewest)
                homes = [frozenset(home) for home in homes_of_others(store, office)]
                onto = [[home for home in homes if ends[min(old)] in home][0] for old in homes]
                most = max(onto.count(home) for home in homes)
                self.assertGreaterEqual(fewest, most)
                found.add((fewest, most))
        self.assertTrue({(1, 1), (2, 2), (3, 2), (3, 3)} <= found, found)

    def test_one_office_alone(self):
        """Each state is a home of its own, and runs lead them to tuples of all sorts."""
        rng = random.Random(278)
        found = set()
        for _ in range(400):
            size = rng.randrange(3, 6)
            row = tuple((name, tuple(rng.randrange(size) for _ in range(size)), (0,) * size) for name in "abc"[:rng.randrange(1, 4)])
            store = Store(size, (row, ()))
            if not is_reversible(store):
                continue
            for name, _, _ in row:
                if not is_wide(store, name):
                    told = marks.least_marks(store, name)
                    fewest = fewest_by_words(store, name)
                    self.assertEqual(max(told.view) + 1, fewest)
                    self.assertTrue(are_marks_by_words(store, name, told.view, told.runs))
                    found.add((size, fewest))
        self.assertTrue({(3, 2), (4, 2), (4, 3), (5, 3), (5, 4)} <= found)

    def test_full_offices(self):
        """If the office is full the fewest numbers are as many as the homes that are led into one."""
        many = 0
        for store in whole_stores(272, 60):
            for office in range(len(store.offices)):
                if len(homes_of_others(store, office)) > 3 or count_given(store, office) > 500:
                    continue
                full = filled(store, office)
                homes = [frozenset(home) for home in homes_of_others(full, office)]
                for name, ends, _ in full.offices[office]:
                    onto = [[home for home in homes if ends[min(old)] in home][0] for old in homes]
                    told = marks.least_marks(full, name)
                    self.assertEqual(max(told.view) + 1, max(onto.count(home) for home in homes))
                    many += max(told.view) > 0
        self.assertGreater(many, 10)

    def test_one_part_changed(self):
        rng = random.Random(273)
        refused = accepted = 0
        for store in stores(274, 40):
            for name, (office, _, _) in all_ops(store).items():
                if is_wide(store, name):
                    continue
                told = marks.least_marks(store, name)
                changed = []
                for at in range(store.size):
                    for number in (0, told.view[at] + 1, max(told.view) + 1):
                        changed.append((told.view[:at] + (number,) + told.view[at + 1:], told.runs))
                for at, run in enumerate(told.runs):
                    for other in (run[1:], run + (name,), (), (rng.choice(names_in(store)),)):
                        changed.append((told.view, told.runs[:at] + (other,) + told.runs[at + 1:]))
                changed += [(told.view, told.runs + ((),)), (told.view, told.runs[1:])]
                for view, runs in changed:
                    good = view in views(store.size) if store.size < 7 else self.is_view(view)
                    good = good and are_marks_by_words(store, name, view, runs)
                    self.assertIs(marks.check_marks(store, name, marks.Marks(view, runs)), good)
                    accepted += good
                    refused += not good
        self.assertGreater(min(accepted, refused), 30)

    def is_view(self, view):
        return all(number <= max(view[:at], default=-1) + 1 for at, number in enumerate(view))

    def test_more_numbers(self):
        for store in stores(275, 30):
            for name, (office, ends, _) in all_ops(store).items():
                homes = homes_of_others(store, office)
                view = tuple([k for k, home in enumerate(homes) if state in home][0] for state in range(store.size))
                runs = []
                for home in homes:
                    least = min(home)
                    behind = [run for length in range(store.size) for run in itertools.product(names_in(store, [office]), repeat=min(length, 4))
                              if done(store, ends[least], run)[0] == least]
                    runs.append(behind[0] if behind else None)
                if None not in runs:
                    self.assertIs(marks.check_marks(store, name, marks.Marks(view, tuple(runs))), True)

    def test_any_value(self):
        store = Store(2, ((("a", (1, 0), (0, 0)),), (("b", (1, 0), (0, 0)),)))
        right = marks.Marks(view=(0, 0), runs=(("a",),))
        self.assertIs(marks.check_marks(store=store, name="a", value=right), True)
        odd = Odd()
        odd.view, odd.runs = right.view, right.runs
        for value in odd_things() + [True, 0, (), "abc", {}, odd, (right.view, right.runs), marks.Marks]:
            self.assertIs(marks.check_marks(store, "a", value), False)
            self.assertIs(marks.check_marks(store, "a", marks.Marks(value, right.runs)), False)
            self.assertIs(marks.check_marks(store, "a", marks.Marks(right.view, value)), False)
            self.assertIs(marks.check_marks(store, "a", marks.Marks((value, 0), right.runs)), value.__class__ is int)
            self.assertIs(marks.check_marks(store, "a", marks.Marks((0, value), right.runs)), value.__class__ is int)
            self.assertIs(marks.check_marks(store, "a", marks.Marks(right.view, (value,))), False)
            self.assertIs(marks.check_marks(store, "a", marks.Marks(right.view, ((value,),))), False)
        for runs in (("a",), (("b",),), (["a"],), (("a", "a"),), [("a",)], (("a",), ("a",)), (("a", "x"),), ((Alike(),),), ((Touchy(),),)):
            self.assertIs(marks.check_marks(store, "a", marks.Marks((0, 0), runs)), False)
        for view in ((0, 1), (1, 1), (0,), (0, 0, 0), [0, 0], (0, False), not_tuples()):
            self.assertIs(marks.check_marks(store, "a", marks.Marks(view, right.runs)), False)

    def test_errors_in_order(self):
        store = Store(2, ((("a", (1, 0), (0, 0)),), (("b", (1, 0), (0, 0)),)))
        seen = Store(2, ((("a", (1, 1), (0, 0)),), (("b", (0, 0), (0, 0)),)))
        oneway = Store(2, ((("a", (1, 1), (0, 0)),), ()))
        both = Store(2, ((("a", (1, 1), (0, 0)),), (("b", (0, 1), (0, 1)),)))
        for name in not_names() + ["x", ("a",)]:
            for wrong in (store, seen, oneway):
                self.assertEqual(error_of(self, InvalidRun, marks.least_marks, wrong, name).at, 0)
                self.assertEqual(error_of(self, InvalidRun, marks.check_marks, wrong, name, None).at, 0)
        for wrong, word in ((seen, "seen"), (oneway, "oneway"), (both, "seen")):
            self.assertEqual(error_of(self, Refused, marks.least_marks, wrong, "a").word, word)
            self.assertEqual(error_of(self, Refused, marks.check_marks, wrong, "a", None).word, word)
        for other in many_stores(276, 100):
            for name in names_in(other)[:1]:
                if not is_unseen(other):
                    self.assertEqual(error_of(self, Refused, marks.least_marks, other, name).word, "seen")
                elif not is_reversible(other):
                    self.assertEqual(error_of(self, Refused, marks.check_marks, other, name, None).word, "oneway")

    def circle(self, size):
        """One office alone, which leads round and to one state."""
        return Store(size, ((("a", tuple((s + 1) % size for s in range(size)), (0,) * size),
                             ("z", (0,) * size, (0,) * size)), ()))

    def test_wide(self):
        six = marks.least_marks(self.circle(6), "z")
        self.assertEqual(six.view, (0, 1, 2, 3, 4, 5))
        self.assertEqual(marks.least_marks(self.circle(6), "a").view, (0,) * 6)
        self.assertEqual(error_of(self, Refused, marks.least_marks, self.circle(7), "a").word, "wide")
        told = marks.Marks((0,) * 7, (("a",) * 6,))
        self.assertIs(marks.check_marks(self.circle(7), "a", told), True)

    def test_wide_tuples(self):
        # Two homes of the others, between which the office goes with 31 * 32 shares: too many pairs of ends.
        table = ring(31)
        store = self.two_homes(31)
        self.assertEqual(len(table), 31)
        self.assertEqual(error_of(self, Refused, marks.least_marks, store, "a").word, "wide")
        few = self.two_homes(15)
        told = marks.least_marks(few, "a")
        self.assertIs(marks.check_marks(few, "a", told), True)
        self.assertEqual(max(told.view), 0)

    def two_homes(self, many):
        """States (p, g): the office exchanges both p, or adds to g where p is 0; the others add to all g."""
        states = [(p, g) for p in range(2) for g in range(many)]
        number = {state: k for k, state in enumerate(states)}
        zeros = (0,) * len(states)
        a = tuple(number[(p, (g + 1 - p) % many)] for p, g in states)
        b = tuple(number[(1 - p, g)] for p, g in states)
        c = tuple(number[(p, (g + 1) % many)] for p, g in states)
        return Store(2 * many, ((("a", a, zeros), ("b", b, zeros)), (("c", c, zeros),)))

    def test_big(self):
        quiet = Store(200, tuple(tuple((n, e, (0,) * 200) for n, e, _ in row) for row in big_store().offices))
        told = marks.least_marks(store=quiet, name="zaa")
        self.assertEqual(told.view, (0,) * 200)
        self.assertIs(marks.check_marks(quiet, "zaa", told), True)
        self.assertIs(marks.check_marks(quiet, "zaa", marks.Marks((0,) * 200, (("zaa",) * 9999,))), True)
        self.assertIs(marks.check_marks(quiet, "zaa", marks.Marks((0,) * 200, (("zaa",) * 9998,))), False)
        rng = random.Random(277)
        store = None
        while store is None or not is_reversible(store):
            store = part_store(rng, ring(10), (4, 5), counts=(6, 9))
        for name in names_in(store, [0]):
            try:
                told = marks.least_marks(store, name)
            except Refused as error:
                self.assertEqual(error.word, "wide")
                continue
            self.assertTrue(are_marks_by_words(store, name, told.view, told.runs))


if __name__ == "__main__":
    unittest.main()
