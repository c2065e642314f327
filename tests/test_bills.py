"""[94]: bills."""

import random
import unittest

from sharedunseen import bills
from sharedunseen.errors import InvalidNumber, InvalidRun, InvalidState, Refused
from sharedunseen.stores import Store
from tests.sorts import random_run, whole_stores
from tests.support import Alike, Odd, Touchy, all_ops, big_store, error_of, many_stores, not_numbers
from tests.support import not_tuples
from tests.test_weavings import weave

MOST = 10 ** 9
STORE = Store(2, ((("a", (1, 0), (0, 0)), ("b", (0, 0), (0, 0))), (("c", (0, 1), (0, 0)),)))
RATES = {"a": (1, 2), "b": (0, -5), "c": (MOST, -MOST)}


def random_rates(rng, store, most=3):
    return {name: tuple(rng.randrange(-most, most + 1) for _ in range(store.size)) for name in store.names()}


def bill_by_words(store, rates, state, run):
    total = 0
    for name in run:
        total += rates[name][state]
        state = all_ops(store)[name][1][state]
    return total


def some_own_runs(rng, store, most):
    """A run of each office, with few operations together."""
    while True:
        runs = tuple(random_run(rng, store, most, [office]) for office in range(len(store.offices)))
        if sum(map(len, runs)) <= 6:
            return runs


def not_rates():
    """Values that are no rates of STORE."""
    wrong = [None, 0, True, "abc", (), [], ("a", "b", "c"), Odd(), Alike(), Touchy(), {}]
    wrong += [{**RATES, "d": (0, 0)}, {name: RATES[name] for name in "ab"}, {"a": (0, 0), "b": (0, 0), "d": (0, 0)}]
    wrong += [{"a": (0, 0), "b": (0, 0), Alike("c"): (0, 0)}, {"a": (0, 0), "b": (0, 0), 0: (0, 0)}]
    rows = not_tuples() + [(), (0,), (0, 0, 0), [0, 0]]
    items = [None, True, "0", 1.0, (0,), Odd(), Alike(), Touchy(), MOST + 1, -MOST - 1, 10 ** 30, -10 ** 30]
    rows += [(item, 0) for item in items] + [(0, item) for item in items]
    for row in rows:
        wrong += [{**RATES, name: row} for name in "abc"]
    return wrong


class RatesTest(unittest.TestCase):

    def test_rates(self):
        self.assertIsNone(bills.check_rates(STORE, RATES))
        self.assertIsNone(bills.check_rates(store=STORE, rates={"c": (0, 0), "a": (MOST, -MOST), "b": (0, 1)}))
        self.assertIsNone(bills.check_rates(Store(3, ((), ())), {}))

    def test_no_rates(self):
        for value in not_rates():
            self.assertEqual(error_of(self, InvalidNumber, bills.check_rates, STORE, value).word, "rates")
        for value in (None, (), {"a": ()}, {"a": (0, 0, 0)}):
            self.assertEqual(error_of(self, InvalidNumber, bills.check_rates, Store(3, ((), ())), value).word, "rates")

    def test_no_rates_elsewhere(self):
        for value in not_rates()[:14]:
            for call in (bills.bill, bills.bill_span, bills.cheapest_weaving):
                self.assertEqual(error_of(self, InvalidNumber, call, STORE, value, 9, None).word, "rates")
            self.assertEqual(error_of(self, InvalidNumber, bills.bill_again, STORE, value, 9, None, None).word, "rates")


class BillTest(unittest.TestCase):

    def test_by_its_words(self):
        rng = random.Random(201)
        for store in many_stores(202, 200):
            rates = random_rates(rng, store, rng.choice((1, 3, MOST)))
            kept = {name: rates[name] for name in rates}
            for _ in range(4):
                state = rng.randrange(store.size)
                run = random_run(rng, store, 6)
                expected = bill_by_words(store, rates, state, run)
                self.assertEqual(bills.bill(store, rates, state, run), expected)
                for times in (0, 1, 2, 3, 7, 50):
                    expected = bill_by_words(store, rates, state, run * times)
                    self.assertEqual(bills.bill_again(store, rates, state, run, times), expected)
            self.assertEqual(rates, kept)

    def test_many_times(self):
        rng = random.Random(203)
        for store in many_stores(204, 60):
            rates = random_rates(rng, store)
            state = rng.randrange(store.size)
            run = random_run(rng, store, 4)
            # Behind `size` times the run has come to its round, and 2,520 is a multiple of each round of up to 10 states.
            first, second = (bill_by_words(store, rates, state, run * times) for times in (store.size, store.size + 2520))
            for many in (10 ** 3, (10 ** 18 - store.size) // 2520):
                found = bills.bill_again(store, rates, state, run, store.size + 2520 * many)
                self.assertEqual(found, first + many * (second - first))
        big = bills.bill_again(STORE, RATES, 0, ("c",), 10 ** 18)
        self.assertEqual(big, MOST * 10 ** 18)
        self.assertEqual(bills.bill_again(STORE, RATES, 0, (), 10 ** 18), 0)
        self.assertEqual(bills.bill_again(store=STORE, rates=RATES, state=0, run=("a",), times=3), 4)

    def test_errors_in_order(self):
        for state in not_numbers() + [2]:
            error_of(self, InvalidState, bills.bill, STORE, RATES, state, None)
            error_of(self, InvalidState, bills.bill_again, STORE, RATES, state, None, None)
        for run, at in ((None, -1), (["a"], -1), (("a", "x"), 1), ((Alike(),), 0), (("a",) * 9999 + (1,), 9999)):
            self.assertEqual(error_of(self, InvalidRun, bills.bill, STORE, RATES, 0, run).at, at)
            self.assertEqual(error_of(self, InvalidRun, bills.bill_again, STORE, RATES, 0, run, None).at, at)
        for times in not_numbers() + [10 ** 18 + 1, 10 ** 30]:
            self.assertEqual(error_of(self, InvalidNumber, bills.bill_again, STORE, RATES, 0, ("a",), times).word, "times")

    def test_big(self):
        store = big_store()
        rates = {name: tuple(range(-100, 100)) for name in store.names()}
        run = ("zaa",) * 10000
        self.assertEqual(bills.bill(store=store, rates=rates, state=3, run=run), -100 * 50)
        run = ("zaa",) * 9999
        self.assertEqual(bills.bill_again(store, rates, 3, run, 200), bill_by_words(store, rates, 3, ("zaa",) * 200) * 9999)


class WeavingsTest(unittest.TestCase):

    def test_all_weavings_tried(self):
        rng = random.Random(205)
        spans = set()
        for store in list(many_stores(206, 250)) + list(whole_stores(207, 50)):
            rates = random_rates(rng, store, rng.choice((1, 2, 9)))
            runs = some_own_runs(rng, store, 3)
            state = rng.randrange(store.size)
            weavings = weave(runs)
            told = [bill_by_words(store, rates, state, run) for run in weavings]
            self.assertEqual(bills.bill_span(store, rates, state, runs), (min(told), max(told)))
            self.assertEqual(bills.cheapest_weaving(store, rates, state, runs), weavings[told.index(min(told))])
            spans.add((min(told) < max(told), told.index(min(told)) > 0))
        self.assertEqual(len(spans), 3)

    def test_errors_in_order(self):
        for state in not_numbers() + [2]:
            for call in (bills.bill_span, bills.cheapest_weaving):
                error_of(self, InvalidState, call, STORE, RATES, state, None)
        wrong = [(value, -1) for value in not_tuples()] + [((), -1), (((),), -1), (((), (), ()), -1), ([(), ()], -1)]
        wrong += [((value, None), 0) for value in not_tuples()] + [(((), value), 1) for value in not_tuples()]
        wrong += [((("c",), None), 0), ((("a",), ("a",)), 1), ((("a", "b", "x"), ("x",)), 0), ((("a",), (1,)), 1)]
        wrong += [((("a",) * 1000, ("a",)), 1)]
        for runs, at in wrong:
            for call in (bills.bill_span, bills.cheapest_weaving):
                self.assertEqual(error_of(self, InvalidRun, call, STORE, RATES, 0, runs).at, at)

    def test_wide(self):
        for runs in ((("a",) * 9, ("c",) * 99), (("a",) * 999, ()), (("b",) * 499, ("c",))):
            self.assertEqual(len(bills.cheapest_weaving(STORE, RATES, 0, runs)), len(runs[0] + runs[1]))
            low, high = bills.bill_span(store=STORE, rates=RATES, state=0, runs=runs)
            self.assertEqual(bills.bill(STORE, RATES, 0, bills.cheapest_weaving(STORE, RATES, 0, runs)), low)
            self.assertLessEqual(low, high)
        for runs in ((("a",) * 12, ("c",) * 76), (("a",) * 1000, ()), (("a",) * 9, ("c",) * 100), (("a",) * 9999, ("c",) * 9999)):
            for call in (bills.bill_span, bills.cheapest_weaving):
                self.assertEqual(error_of(self, Refused, call, STORE, RATES, 0, runs).word, "wide")

    def test_big(self):
        store = big_store()
        rates = {name: tuple((s * s + k) % 7 for s in range(200)) for k, name in enumerate(store.names())}
        runs = tuple((row[0][0],) for row in store.offices[:7]) + ((store.offices[7][0][0],) * 6,)
        low, high = bills.bill_span(store, rates, 5, runs)
        cheapest = bills.cheapest_weaving(store=store, rates=rates, state=5, runs=runs)
        self.assertEqual(bill_by_words(store, rates, 5, cheapest), low)
        self.assertLess(low, high)

    def test_of_one_state(self):
        store = Store(1, ((("a", (0,), (0,)),), (("b", (0,), (0,)),)))
        rates = {"a": (MOST,), "b": (-MOST,)}
        self.assertEqual(bills.bill_span(store, rates, 0, (("a", "a"), ("b",))), (MOST, MOST))
        self.assertEqual(bills.cheapest_weaving(store, rates, 0, (("a", "a"), ("b",))), ("a", "a", "b"))
        self.assertEqual(bills.bill_span(store, rates, 0, ((), ())), (0, 0))
        self.assertEqual(bills.cheapest_weaving(store, rates, 0, ((), ())), ())


if __name__ == "__main__":
    unittest.main()
