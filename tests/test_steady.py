"""[24]: steady views and answers that hold."""

import itertools
import unittest

from sharedunseen import steady
from sharedunseen.errors import InvalidNumber
from sharedunseen.stores import Store
from tests.support import Alike, Odd, big_store, done, error_of, many_stores, names_in, not_numbers, not_tuples
from tests.test_notices import cut_by_words


def views(size):
    """All views of so many states."""
    found = [()]
    for _ in range(size):
        found = [view + (k,) for view in found for k in range(max(view, default=-1) + 2)]
    return found


def is_steady_by_words(store, office, view):
    for k, row in enumerate(store.offices):
        for _, ends, _ in row:
            if k != office and any(view[ends[s]] != view[s] for s in range(store.size)):
                return False
            pairs = itertools.combinations(range(store.size), 2)
            if k == office and any(view[s] == view[t] and view[ends[s]] != view[ends[t]] for s, t in pairs):
                return False
    return True


class SteadyTest(unittest.TestCase):

    def test_all_views_tried(self):
        verdicts = set()
        for store in many_stores(91, 150, sizes=(1, 6), operations=(0, 3)):
            for office in range(len(store.offices)):
                fitting = [view for view in views(store.size) if is_steady_by_words(store, office, view)]
                finest = max(fitting, key=max)
                for view in fitting:
                    pairs = itertools.combinations(range(store.size), 2)
                    self.assertTrue(all(view[s] == view[t] for s, t in pairs if finest[s] == finest[t]))
                self.assertEqual(steady.steady_view(store, office), finest)
                telling = [view for view in fitting if all(
                    told[s] == told[t] for _, _, told in store.offices[office]
                    for s in range(store.size) for t in range(s) if view[s] == view[t])]
                for view in views(store.size):
                    self.assertIs(steady.is_steady(store, office, view), view in telling)
                self.assertIs(steady.answers_hold(store, office=office), bool(telling))
                verdicts.add(bool(telling))
                self.check_misled(store, office)
            offices = range(len(store.offices))
            every = all(steady.answers_hold(store, office=k) for k in offices)
            self.assertIs(steady.answers_hold(store), every)
            self.assertIs(steady.answers_hold(store, office=None), every)
        self.assertEqual(verdicts, {True, False})

    def check_misled(self, store, office):
        """Some answer of `misled` against all runs, shorter ones first."""
        found = steady.misled(store, office)
        self.assertIs(found is None, steady.answers_hold(store, office=office))
        others = [name for name in names_in(store) if name not in names_in(store, [office])]
        length = store.size - 1 if found is None else len(found[2]) - 1
        for most in range(1, min(length, 4) + 1):
            for run in itertools.product(names_in(store, [office]), repeat=most):
                for state in range(store.size):
                    for other in others:
                        self.assertFalse(self.misleads(store, state, other, run))
        if found is not None:
            state, other, run = found
            self.assertIsInstance(run, tuple)
            self.assertIn(other, others)
            self.assertTrue(set(run) <= set(names_in(store, [office])))
            self.assertTrue(self.misleads(store, state, other, run))
            self.assertLess(len(run), store.size)

    def misleads(self, store, state, other, run):
        return done(store, state, run)[1][-1] != done(store, state, (other,) + run)[1][-1]

    def test_many_misled(self):
        for store in many_stores(92, 100):
            for office in range(len(store.offices)):
                found = steady.misled(store, office)
                if found is not None:
                    self.assertTrue(self.misleads(store, *found))

    def test_cuts(self):
        """Answers hold exactly if no cut shows another one."""
        for store in many_stores(94, 150, sizes=(1, 4), operations=(0, 2)):
            names = names_in(store)
            held = [True] * len(store.offices)
            for length in range(4):
                for run in itertools.product(names, repeat=length):
                    for state in range(store.size):
                        told = cut_by_words(store, (state,) * len(store.offices), run)[0]
                        single = done(store, state, run)[1]
                        for place, name in enumerate(run):
                            if told[place] != single[place]:
                                held[[k for k, row in enumerate(store.offices) if name in [op[0] for op in row]][0]] = False
            for office, verdict in enumerate(held):
                if not verdict or store.size < 4:
                    self.assertIs(steady.answers_hold(store, office=office), verdict)

    def test_is_steady_any_value(self):
        store = Store(3, ((("a", (0, 1, 2), (0, 0, 0)),), ()))
        for view in ((0, 0, 0), (0, 1, 2), (0, 1, 1)):
            self.assertIs(steady.is_steady(store=store, office=0, value=view), True)
        wrong = not_tuples() + [(), (0, 0), (0, 0, 0, 0), (1, 0, 0), (0, 2, 1), (0, -1, 0), (0, True, 0), (0, 1, 3)]
        for value in wrong + [(False, 0, 0), (0, "1", 0), (0, None, 0), (0, 1.0, 0), (0, Alike(), 0), (0, Odd(), 0), [0, 0, 0]]:
            self.assertIs(steady.is_steady(store, 0, value), False)

    def test_errors(self):
        store = Store(2, ((), ()))
        for office in not_numbers() + [2, 10 ** 30]:
            self.assertEqual(error_of(self, InvalidNumber, steady.steady_view, store, office).word, "office")
            self.assertEqual(error_of(self, InvalidNumber, steady.is_steady, store, office, None).word, "office")
            self.assertEqual(error_of(self, InvalidNumber, steady.misled, store, office).word, "office")
            if office is not None:
                error = error_of(self, InvalidNumber, steady.answers_hold, store, office=office)
                self.assertEqual(error.word, "office")
        with self.assertRaises(TypeError):
            steady.answers_hold(store, 0)

    def test_big(self):
        store = big_store()
        for office in (0, 7):
            self.assertEqual(steady.steady_view(store=store, office=office), (0,) * 200)
            state, other, run = steady.misled(store=store, office=office)
            self.assertEqual(len(run), 1)
            self.assertTrue(self.misleads(store, state, other, run))
        self.assertIs(steady.answers_hold(store), False)
        tail = tuple(min(s + 1, 199) for s in range(200))
        look = tuple(range(199)) + (198,)
        store = Store(200, ((("go", tail, (0,) * 199 + (1,)),), (("skip", (1,) + tuple(range(1, 200)), look),)))
        found = steady.misled(store, 0)
        self.assertEqual(found, (0, "skip", ("go",) * 199))
        self.assertEqual(steady.steady_view(store, 0), (0,) * 200)


if __name__ == "__main__":
    unittest.main()
