"""[69], [70]: looks, and what is told at once."""

import itertools
import random
import unittest

from sharedunseen import looks
from sharedunseen.clashes import all_clashes
from sharedunseen.errors import InvalidNumber, InvalidView, Refused
from sharedunseen.stores import Store
from tests.support import Alike, Odd, Touchy, all_ops, big_store, error_of, many_stores, not_names, not_numbers, not_tuples
from tests.test_homes import lots_of
from tests.test_steady import views

MOST = 10 ** 12
STORE = Store(3, ((("a", (1, 0, 2), (0, 0, 0)),), (), (("b", (0, 2, 2), (0, 0, 0)),)))


def waits_by_words(store, look):
    found = []
    for office, row in enumerate(store.offices):
        if any(look[ends[s]] != look[s] for _, ends, _ in row for s in range(store.size)):
            found.append(office)
    return tuple(found)


def all_looks(store, most):
    return itertools.product(range(most), repeat=store.size)


def wrong_looks():
    """Pairs of a value that is no look of STORE, and the `at` of the error."""
    found = [(value, -1) for value in not_tuples()] + [((), -1), ((0, 0), -1), ((0, 0, 0, 0), -1), ([0, 0, 0], -1)]
    for at in range(3):
        for item in not_numbers() + [MOST + 1, 10 ** 30]:
            look = [MOST, 0, 1]
            look[at] = item
            found.append((tuple(look), at))
    return found + [((0, -1, True), 1), ((None, -1, 0), 0)]


def wrong_offices():
    return not_tuples() + [(3,), (1, 0), (1, 1), (-1,), (True,), ("0",), (0, None), (0, Alike()), (Odd(),), (Touchy(),), [0]]


def first_view(size, fits):
    """The finest view that fits, all tried; it must be finer than all that fit."""
    fitting = [view for view in views(size) if fits(view)]
    finest = max(fitting, key=max)
    for view in fitting:
        if any(finest[s] == finest[t] and view[s] != view[t] for s in range(size) for t in range(s)):
            raise AssertionError("no finest view")
    return finest


class LooksTest(unittest.TestCase):

    def test_looks(self):
        for look in ((0, 0, 0), (MOST, 0, MOST), (5, 4, 3)):
            self.assertIsNone(looks.check_look(store=STORE, value=look))

    def test_waits(self):
        rng = random.Random(261)
        found = set()
        for store in many_stores(262, 200):
            for _ in range(4):
                look = tuple(rng.randrange(2) for _ in range(store.size))
                self.assertEqual(looks.waits_for(store, look), waits_by_words(store, look))
                found.add(looks.waits_for(store, look))
        self.assertGreater(len(found), 5)

    def test_with_look(self):
        """The new operation clashes with exactly the operations of other offices that change the look."""
        rng = random.Random(263)
        for store in many_stores(264, 150):
            office = rng.randrange(len(store.offices))
            look = tuple(rng.randrange(3) for _ in range(store.size))
            new = looks.with_look(store, office, "new", look)
            rows = list(store.offices)
            rows[office] += (("new", tuple(range(store.size)), look),)
            self.assertEqual(new, Store(store.size, tuple(rows)))
            clashing = {name for clash in all_clashes(new) if "new" in clash[:2] for name in clash[:2]} - {"new"}
            expected = {name for name, (owner, ends, _) in all_ops(store).items()
                        if owner != office and any(look[ends[s]] != look[s] for s in range(store.size))}
            self.assertEqual(clashing, expected)

    def test_wrong_looks(self):
        for value, at in wrong_looks():
            self.assertEqual(error_of(self, InvalidView, looks.check_look, STORE, value).at, at)
            self.assertEqual(error_of(self, InvalidView, looks.waits_for, STORE, value).at, at)
            self.assertEqual(error_of(self, InvalidView, looks.with_look, STORE, 0, "new", value).at, at)
            self.assertEqual(error_of(self, InvalidView, looks.told_at_once, STORE, (0,), value).at, at)

    def test_with_look_errors_in_order(self):
        for office in not_numbers() + [3]:
            self.assertEqual(error_of(self, InvalidNumber, looks.with_look, STORE, office, "a", None).word, "office")
        for name in not_names() + ["a", "b"]:
            self.assertEqual(error_of(self, Refused, looks.with_look, STORE, 1, name, None).word, "name")
        full = big_store()
        self.assertEqual(error_of(self, InvalidView, looks.with_look, full, 1, "new", (0,) * 199).at, -1)
        self.assertEqual(error_of(self, Refused, looks.with_look, full, 1, "zaa", (0,) * 200).word, "name")
        self.assertEqual(error_of(self, Refused, looks.with_look, full, 1, "new", (0,) * 200).word, "operations")
        less = big_store(operations=39)
        more = looks.with_look(store=less, office=7, name="new", look=(MOST,) * 200)
        self.assertEqual(more.offices[7][-1], ("new", tuple(range(200)), (MOST,) * 200))
        self.assertEqual(len(more.names()), 40)


class ToldTest(unittest.TestCase):

    def test_all_views_tried(self):
        rng = random.Random(265)
        for store in many_stores(266, 120, sizes=(1, 6), operations=(0, 3)):
            for offices in lots_of(len(store.offices)):
                others = set(range(len(store.offices))) - set(offices)

                def blind(view):
                    return not others & set(waits_by_words(store, view))
                self.assertEqual(looks.finest_look(store, offices), first_view(store.size, blind))
                look = tuple(rng.choice((0, 1, MOST)) for _ in range(store.size))
                pairs = [(s, t) for s in range(store.size) for t in range(s) if look[s] == look[t]]
                expected = first_view(store.size, lambda view: blind(view) and all(view[s] == view[t] for s, t in pairs))
                self.assertEqual(looks.told_at_once(store, offices, look), expected)

    def test_equal_numbers(self):
        """A look waits for none of the others exactly if it has equal numbers where the finest one has."""
        for store in many_stores(267, 40, sizes=(1, 5)):
            for offices in lots_of(len(store.offices)):
                view = looks.finest_look(store, offices)
                for look in all_looks(store, 3):
                    alike = all(look[s] == look[t] for s in range(store.size) for t in range(s) if view[s] == view[t])
                    self.assertIs(alike, set(waits_by_words(store, look)) <= set(offices))

    def test_all_looks_counted(self):
        for store in many_stores(268, 60, sizes=(1, 5), offices=(2, 5)):
            for most in (1, 2, 3):
                told = [waits_by_words(store, look) for look in all_looks(store, most)]
                for offices in lots_of(len(store.offices)):
                    few = len([waits for waits in told if set(waits) <= set(offices)])
                    self.assertEqual(looks.count_looks(store, offices, most), few)
                    self.assertEqual(looks.count_waiting(store, offices, most), told.count(offices))

    def test_errors_in_order(self):
        for offices in wrong_offices():
            self.assertEqual(error_of(self, InvalidNumber, looks.finest_look, STORE, offices).word, "offices")
            for call in (looks.told_at_once, looks.count_looks, looks.count_waiting):
                self.assertEqual(error_of(self, InvalidNumber, call, STORE, offices, None).word, "offices")
        for most in not_numbers() + [0, 1001, 10 ** 30]:
            for call in (looks.count_looks, looks.count_waiting):
                self.assertEqual(error_of(self, InvalidNumber, call, STORE, (0,), most).word, "most")

    def test_edges(self):
        self.assertEqual(looks.finest_look(store=STORE, offices=()), (0, 0, 0))
        self.assertEqual(looks.finest_look(STORE, (0, 1, 2)), (0, 1, 2))
        self.assertEqual(looks.told_at_once(store=STORE, offices=(0, 1, 2), look=(7, 3, 7)), (0, 1, 0))
        self.assertEqual(looks.count_looks(store=STORE, offices=(0, 1, 2), most=1000), 10 ** 9)
        self.assertEqual(looks.count_waiting(store=STORE, offices=(), most=1000), 1000)
        self.assertEqual(looks.count_waiting(STORE, (0, 1), 1000), 0)
        self.assertEqual(looks.count_looks(STORE, (), 1), 1)

    def test_big(self):
        store = Store(200, ((),) * 8)
        self.assertEqual(looks.count_looks(store, (), 1000), 1000 ** 200)
        self.assertEqual(looks.count_waiting(store, (), 1000), 1000 ** 200)
        self.assertEqual(looks.count_waiting(store, tuple(range(8)), 1000), 0)
        every = tuple(range(8))
        # Each operation of the big store leads one number further than the one before, the first by one.
        self.assertEqual(looks.finest_look(big_store(), every), tuple(range(200)))
        self.assertEqual(looks.count_looks(big_store(), every, 1000), 1000 ** 200)
        self.assertEqual(looks.count_looks(big_store(), every[1:], 1000), 1000)
        total = sum(looks.count_waiting(big_store(), lot, 2) for lot in lots_of(8)[:20])
        self.assertLessEqual(total, 2 ** 200)


if __name__ == "__main__":
    unittest.main()
