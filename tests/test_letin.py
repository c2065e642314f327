"""[82], [83], [84]: operations that may be given to an office."""

import itertools
import random
import unittest

from sharedunseen import letin
from sharedunseen.backs import common_back
from sharedunseen.errors import InvalidNumber, Refused
from sharedunseen.stores import Store
from tests.sorts import all_sorts, whole_stores
from tests.support import Alike, Odd, Touchy, big_store, error_of, many_stores, not_names, not_numbers, not_tuples
from tests.test_clashes import clashes_by_words
from tests.test_homes import home_by_words, reach_by_words

STORE = Store(2, ((("a", (0, 1), (0, 0)),), (("flip", (1, 0), (0, 0)),)))
ONEWAY = Store(2, ((("a", (0, 1), (0, 0)),), (("b", (1, 1), (0, 0)),)))


def others_of(store, office):
    return [k for k in range(len(store.offices)) if k != office]


def lasts(store, office):
    """Whether each state lasts for the others."""
    reach = reach_by_words(store, others_of(store, office))
    return all(s in reach[t] for s in range(store.size) for t in reach[s])


def may_be_given_by_words(store, office, operation):
    """Whether the operation, given to the office, clashes with none of another one."""
    rows = [row if k != office else (operation,) for k, row in enumerate(store.offices)]
    clashes = clashes_by_words(Store(store.size, tuple(rows)))
    return not [clash for clash in clashes if operation[0] in clash[:2]]


def given_by_words(store, office):
    """All tuples of ends that may be given, ascending by the goals of the least states, and these goals."""
    reach = reach_by_words(store, others_of(store, office))
    leasts = sorted({min(home_by_words(reach, state)) for state in range(store.size)})
    every = itertools.product(range(store.size), repeat=store.size)
    fitting = [ends for ends in every if may_be_given_by_words(store, office, ("new", ends, (0,) * store.size))]
    return sorted(fitting, key=lambda ends: [ends[least] for least in leasts]), leasts


class MayBeGivenTest(unittest.TestCase):

    def test_by_its_words(self):
        rng = random.Random(251)
        given = [0, 0]
        for store in all_sorts(252, 200):
            for office in range(len(store.offices)):
                for _ in range(3):
                    row = rng.choice(store.offices)
                    ends = row[0][1] if row and rng.randrange(2) else tuple(rng.randrange(store.size) for _ in range(store.size))
                    told = tuple(rng.randrange(2) for _ in range(store.size)) if rng.randrange(2) else (7,) * store.size
                    expected = may_be_given_by_words(store, office, ("new", ends, told))
                    self.assertIs(letin.may_be_given(store, office, ("new", ends, told)), expected)
                    given[expected] += 1
        self.assertGreater(min(given), 100)

    def test_names(self):
        for name in ("a", "flip"):
            self.assertIs(letin.may_be_given(STORE, 0, (name, (1, 0), (0, 0))), False)
            self.assertIs(letin.may_be_given(STORE, 1, (name, (0, 1), (0, 0))), False)
        self.assertIs(letin.may_be_given(store=STORE, office=0, value=("b", (1, 0), (10 ** 12, 10 ** 12))), True)
        self.assertIs(letin.may_be_given(STORE, 0, ("b", (1, 0), (10 ** 12 + 1, 10 ** 12 + 1))), False)
        full = big_store()
        self.assertIs(letin.may_be_given(full, 0, ("new", tuple(range(200)), (0,) * 200)), True)
        self.assertIs(letin.may_be_given(full, 0, ("zaa", tuple(range(200)), (0,) * 200)), False)

    def test_any_value(self):
        right = ("b", (1, 0), (0, 0))
        wrong = not_tuples() + [(), right[:2], right + (0,), list(right)]
        wrong += [(name,) + right[1:] for name in not_names()]
        for at in (1, 2):
            rows = not_tuples() + [(), (0,), (0, 0, 0), [0, 0]]
            rows += [(item, 0) for item in not_numbers()] + [(0, item) for item in not_numbers()]
            wrong += [right[:at] + (row,) + right[at + 1:] for row in rows]
        wrong += [("b", (0, 2), (0, 0)), ("b", (-1, 0), (0, 0)), ("b", (True, 0), (0, 0)), ("b", (1, False), (0, 0))]
        for value in wrong + [Touchy(), Odd(), Alike()]:
            self.assertIs(letin.may_be_given(STORE, 0, value), False)
        self.assertIs(letin.may_be_given(STORE, 0, right), True)

    def test_first_the_office(self):
        calls = [letin.given_goals, letin.count_given]
        calls += [lambda store, office: call(store, office, None) for call in (letin.may_be_given, letin.given_ends, letin.number_of_given)]
        for store in (STORE, ONEWAY):
            for office in not_numbers() + [2, 10 ** 30]:
                for call in calls:
                    self.assertEqual(error_of(self, InvalidNumber, call, store, office).word, "office")
                for call in (letin.may_be_given, letin.given_ends, letin.number_of_given):
                    self.assertEqual(error_of(self, InvalidNumber, call, store, office, None).word, "office")


class GoalsTest(unittest.TestCase):

    def stores(self, seed):
        few = [store for store in many_stores(seed, 160) if store.size < 5]
        return few + [store for store in whole_stores(seed, 60) if store.size < 5]

    def test_all_ends_tried(self):
        counts = set()
        for store in self.stores(253):
            for office in range(len(store.offices)):
                if not lasts(store, office):
                    for call in (letin.given_goals, letin.count_given):
                        self.assertEqual(error_of(self, Refused, call, store, office).word, "oneway")
                    for call in (letin.given_ends, letin.number_of_given):
                        self.assertEqual(error_of(self, Refused, call, store, office, None).word, "oneway")
                    continue
                fitting, leasts = given_by_words(store, office)
                goals = tuple(tuple(sorted({ends[least] for ends in fitting})) for least in leasts)
                self.assertEqual(letin.given_goals(store, office), goals)
                self.assertEqual(letin.count_given(store, office), len(fitting))
                self.check_numbers(store, office, fitting)
                counts.add(len(fitting))
        self.assertGreater(len(counts), 5)

    def check_numbers(self, store, office, fitting):
        for number, ends in enumerate(fitting):
            self.assertEqual(letin.given_ends(store, office, number), ends)
            self.assertEqual(letin.number_of_given(store, office, ends), number)
        error = error_of(self, InvalidNumber, letin.given_ends, store, office, len(fitting))
        self.assertEqual(error.word, "number")
        for ends in itertools.islice(itertools.product(range(store.size), repeat=store.size), 100):
            if ends not in fitting:
                self.assertIsNone(letin.number_of_given(store, office, ends))

    def test_onto_homes(self):
        """Ends that may be given lead each joint home of the others onto one of them; answers are equal in each."""
        rng = random.Random(254)
        for store in list(whole_stores(255, 60)) + list(whole_stores(256, 40, offices=3, size=16)):
            for office in range(len(store.offices)):
                reach = reach_by_words(store, others_of(store, office))
                homes = [home_by_words(reach, state) for state in range(store.size)]
                number = rng.randrange(letin.count_given(store, office))
                ends = letin.given_ends(store, office, number)
                self.assertEqual(letin.number_of_given(store, office, ends), number)
                for home in homes:
                    self.assertIn({ends[s] for s in home}, homes)
                told = [rng.randrange(2) for _ in range(store.size)]
                alike = all(told[s] == told[t] for home in homes for s in home for t in home)
                self.assertIs(letin.may_be_given(store, office, ("new", ends, tuple(told))), alike)
                even = tuple(min(home) for home in homes)
                self.assertIs(letin.may_be_given(store, office, ("new", ends, even)), True)

    def test_taken_back(self):
        """[88]: one run takes an operation back at all states, and ends that lead back may be given, if it leads no two to one."""
        kinds = [0, 0]
        for store in whole_stores(257, 100):
            for office, row in enumerate(store.offices):
                for name, ends, _ in row:
                    single = len(set(ends)) == store.size
                    try:
                        run = common_back(store, name, tuple(range(store.size)))
                        self.assertIs(run is not None, single)
                    except Refused as error:
                        self.assertEqual(error.word, "wide")
                    if single:
                        back = tuple(ends.index(state) for state in range(store.size))
                        self.assertIsNotNone(letin.number_of_given(store, office, back))
                    kinds[single] += 1
        self.assertGreater(min(kinds), 20)

    def test_wrong_numbers(self):
        for number in not_numbers() + [2, 10 ** 30]:
            self.assertEqual(error_of(self, InvalidNumber, letin.given_ends, STORE, 0, number).word, "number")
        self.assertEqual(letin.given_ends(store=STORE, office=0, number=1), (1, 0))

    def test_number_of_any_value(self):
        wrong = not_tuples() + [(), (0,), (0, 0), (1, 1), (0, 1, 2), (1, 0, 0), (True, False), (1, False), (1, "0"), [1, 0]]
        wrong += [(1, item) for item in not_numbers()] + [(item, 0) for item in not_numbers()] + [(0, 2), (1, -1), ("new", (1, 0), (0, 0))]
        for value in wrong + [Touchy(), Odd(), Alike()]:
            self.assertIsNone(letin.number_of_given(STORE, 0, value))
        self.assertEqual(letin.number_of_given(store=STORE, office=0, value=(1, 0)), 1)

    def test_empty_offices(self):
        store = Store(200, ((), ()))
        self.assertEqual(letin.given_goals(store=store, office=0), (tuple(range(200)),) * 200)
        self.assertEqual(letin.count_given(store=store, office=1), 200 ** 200)
        self.assertEqual(letin.given_ends(store, 0, 0), (0,) * 200)
        self.assertEqual(letin.given_ends(store, 0, 200 ** 200 - 1), (199,) * 200)
        self.assertEqual(letin.number_of_given(store, 0, tuple(range(200))), sum(k * 200 ** (199 - k) for k in range(200)))
        error_of(self, InvalidNumber, letin.given_ends, store, 0, 200 ** 200)
        one = Store(1, ((), ()))
        self.assertEqual((letin.given_goals(one, 0), letin.given_ends(one, 0, 0)), (((0,),), (0,)))

    def test_big(self):
        quiet = Store(200, tuple(tuple((n, e, (0,) * 200) for n, e, _ in row) for row in big_store().offices))
        self.assertEqual(letin.given_goals(quiet, 3), (tuple(range(200)),))
        self.assertEqual(letin.given_ends(quiet, 3, 7), tuple((s + 7) % 200 for s in range(200)))
        self.assertEqual(letin.given_goals(big_store(), 3), ((0,),))


if __name__ == "__main__":
    unittest.main()
