"""[16] to [18]: weavings."""

import itertools
import math
import random
import unittest

from sharedunseen import weavings
from sharedunseen.errors import InvalidNumber, InvalidRun, InvalidState, Refused
from sharedunseen.stores import Store
from tests.support import Alike, Odd, big_store, done, error_of, many_stores, names_in, not_names, not_numbers, not_tuples

STORE = Store(3, ((("up", (1, 2, 2), (0, 0, 1)),), (("zero", (0, 0, 0), (0, 1, 2)),), ()))


def weave(runs):
    """All weavings in their order: by the tuples of the indices of the runs."""
    owners = sorted(set(itertools.permutations([k for k, run in enumerate(runs) for _ in run])))
    found = []
    for row in owners:
        places = [iter(run) for run in runs]
        found.append(tuple(next(places[k]) for k in row))
    return found


def some_runs(rng):
    """Some runs with few operations together; a name may stand in one run several times."""
    names = rng.sample(["a", "b", "c", "ab", "ba", "abcde"], 6)
    runs = []
    for _ in range(rng.randrange(4)):
        own = [names.pop() for _ in range(rng.randrange(3))]
        runs.append(tuple(rng.choice(own) for _ in range(rng.randrange(4))) if own else ())
    while sum(map(len, runs)) > 7:
        runs.pop()
    return tuple(runs)


def not_runs():
    """Pairs of a value that is no tuple of runs and the `at` of the error."""
    found = [(value, -1) for value in not_tuples()] + [([("a",)], -1)]
    for at in range(3):
        for value in not_tuples():
            rows = [("a", "b"), (), ("c",)]
            rows[at] = value
            found.append((tuple(rows), at))
        for name in not_names():
            rows = [("a", "b"), (), ("c",)]
            rows[at] += (name,)
            found.append((tuple(rows), at))
    found += [((("a",), ("a",)), 1), ((("a", "a"), ("b",), ("c", "b")), 2), ((("a",), ("a",), None), 1)]
    found += [((("a",), None, ("a",)), 1)]
    return found


class CountTest(unittest.TestCase):

    def test_check_runs(self):
        for runs in ((), ((),), ((), ()), (("a", "a"), ("b",)), (("abcde",) * 10000, ("b",) * 10000)):
            self.assertIsNone(weavings.check_runs(runs))
        for runs, at in not_runs():
            self.assertEqual(error_of(self, InvalidRun, weavings.check_runs, runs).at, at)
            for call, *more in ((weavings.count_weavings,), (weavings.weaving_at, -1), (weavings.place_of_weaving, None),
                                (weavings.count_exchanges, None, None), (weavings.exchanges, None, None)):
                self.assertEqual(error_of(self, InvalidRun, call, runs, *more).at, at)

    def test_all_weavings(self):
        rng = random.Random(71)
        for _ in range(300):
            runs = some_runs(rng)
            found = weave(runs)
            self.assertEqual(weavings.count_weavings(runs), len(found))
            for number in sorted({0, len(found) - 1, rng.randrange(len(found)), len(found) // 2}):
                self.assertEqual(weavings.weaving_at(runs, number), found[number])
                self.assertEqual(weavings.place_of_weaving(runs, found[number]), found.index(found[number]))
            for number in not_numbers() + [len(found), 10 ** 30]:
                self.assertEqual(error_of(self, InvalidNumber, weavings.weaving_at, runs, number).word, "number")

    def test_every_number(self):
        for runs in ((("a", "b"), ("c", "d"), ("e",)), (("a", "a"), ("b", "b", "b")), ((), ("a",), (), ("b",))):
            found = weave(runs)
            self.assertEqual([weavings.weaving_at(runs, k) for k in range(len(found))], found)
            self.assertEqual([weavings.place_of_weaving(runs, run) for run in found], list(range(len(found))))

    def test_no_runs(self):
        for runs in ((), ((),), ((), (), ())):
            self.assertEqual(weavings.count_weavings(runs=runs), 1)
            self.assertEqual(weavings.weaving_at(runs=runs, number=0), ())
            self.assertEqual(weavings.place_of_weaving(runs=runs, run=()), 0)
            self.assertEqual(error_of(self, InvalidNumber, weavings.weaving_at, runs, 1).word, "number")
            self.assertEqual(error_of(self, InvalidRun, weavings.place_of_weaving, runs, ("a",)).at, 0)

    def fault_by_words(self, runs, value):
        places = [0] * len(runs)
        for at, item in enumerate(value):
            fitting = [k for k, run in enumerate(runs) if places[k] < len(run) and run[places[k]] == item]
            if not isinstance(item, str) or not fitting:
                return at
            places[fitting[0]] += 1
        return None if sum(places) == sum(map(len, runs)) else len(value)

    def test_no_weaving(self):
        rng = random.Random(72)
        for _ in range(200):
            runs = some_runs(rng)
            good = weave(runs)[0]
            values = [good[:at] + good[at + 1:] for at in range(len(good))]
            values += [good[:at] + (name,) + good[at:] for at in range(len(good) + 1) for name in ("a", "zz", None, 0)]
            values += [good[:at] + good[at + 1:at + 2] + good[at:at + 1] + good[at + 2:] for at in range(len(good))]
            values += [good[:at] + (Odd(),) for at in range(len(good) + 1)]
            for value in values:
                at = self.fault_by_words(runs, value)
                if at is None:
                    self.assertEqual(weave(runs)[weavings.place_of_weaving(runs, value)], value)
                else:
                    self.assertEqual(error_of(self, InvalidRun, weavings.place_of_weaving, runs, value).at, at)
                    self.assertEqual(error_of(self, InvalidRun, weavings.exchanges, runs, value, None).at, at)
                    self.assertEqual(error_of(self, InvalidRun, weavings.count_exchanges, runs, good, value).at, at)
            for value in not_tuples():
                self.assertEqual(error_of(self, InvalidRun, weavings.place_of_weaving, runs, value).at, -1)
        for name in not_names():
            self.assertEqual(error_of(self, InvalidRun, weavings.place_of_weaving, (("a", "a"),), ("a", name)).at, 1)

    def test_long(self):
        runs = (("a",) * 10000, ("b", "c") * 5000)
        many = math.comb(20000, 10000)
        self.assertEqual(weavings.count_weavings(runs), many)
        self.assertEqual(weavings.weaving_at(runs, 0), runs[0] + runs[1])
        self.assertEqual(weavings.weaving_at(runs, many - 1), runs[1] + runs[0])
        for number in (many // 3, many // 7 * 5, many - 2, 1):
            run = weavings.weaving_at(runs, number)
            self.assertEqual(weavings.place_of_weaving(runs, run), number)
        self.assertEqual(error_of(self, InvalidNumber, weavings.weaving_at, runs, many).word, "number")
        self.assertEqual(error_of(self, InvalidRun, weavings.place_of_weaving, runs, runs[0] + runs[1][:-1]).at, 19999)
        eight = tuple((name,) * 1250 for name in "abcdefgh")
        number = weavings.count_weavings(eight) // 11
        self.assertEqual(weavings.place_of_weaving(eight, weavings.weaving_at(eight, number)), number)


class ExchangesTest(unittest.TestCase):

    def check(self, runs, one, other, fewest):
        self.assertEqual(weavings.count_exchanges(runs, one, other), fewest)
        places = weavings.exchanges(runs, one, other)
        self.assertIsInstance(places, tuple)
        self.assertEqual(len(places), fewest)
        owners = {name: k for k, run in enumerate(runs) for name in run}
        now = list(one)
        for place in places:
            self.assertNotEqual(owners[now[place]], owners[now[place + 1]])
            now[place:place + 2] = [now[place + 1], now[place]]
        self.assertEqual(tuple(now), other)

    def test_fewest(self):
        """Against a search over all exchanges."""
        for runs in ((("a", "a"), ("b", "c")), (("a",), ("b", "b"), ("c",)), (("a", "b", "a"), ("c",)), ((), ("a",)), ()):
            owners = {name: k for k, run in enumerate(runs) for name in run}
            for one in weave(runs):
                lengths = {one: 0}
                queue = [one]
                for here in queue:
                    for k in range(len(here) - 1):
                        there = here[:k] + (here[k + 1], here[k]) + here[k + 2:]
                        if owners[here[k]] != owners[here[k + 1]] and there not in lengths:
                            lengths[there] = lengths[here] + 1
                            queue.append(there)
                for other in weave(runs):
                    self.check(runs, one, other, lengths[other])

    def test_big(self):
        runs = (("a",) * 100, ("b",) * 100)
        self.check(runs, runs[0] + runs[1], runs[1] + runs[0], 10000)
        runs = tuple((name,) * 25 for name in "abcdefgh")
        rng = random.Random(73)
        one, other = (weavings.weaving_at(runs, rng.randrange(weavings.count_weavings(runs))) for _ in "ab")
        self.check(runs, one, other, weavings.count_exchanges(runs=runs, one=one, other=other))
        self.assertEqual(weavings.count_exchanges(runs, other, one), weavings.count_exchanges(runs, one, other))
        self.assertEqual(weavings.exchanges(runs=runs, one=one, other=one), ())

    def test_errors(self):
        runs = (("a",), ("b",))
        for value in not_tuples():
            for call in (weavings.count_exchanges, weavings.exchanges):
                self.assertEqual(error_of(self, InvalidRun, call, runs, value, ("a",)).at, -1)
                self.assertEqual(error_of(self, InvalidRun, call, runs, ("a", "b"), value).at, -1)
                self.assertEqual(error_of(self, InvalidRun, call, runs, ("a",), value).at, 1)


class SortedRunTest(unittest.TestCase):

    def test_by_its_words(self):
        rng = random.Random(74)
        for store in many_stores(75, 100):
            names = names_in(store)
            run = tuple(rng.choice(names) for _ in range(rng.randrange(9))) if names else ()
            offices = range(len(store.offices))
            own = [tuple(name for name in run if name in names_in(store, [k])) for k in offices]
            self.assertEqual(weavings.sorted_run(store, run), sum(own, ()))
            self.assertEqual(weavings.sorted_run(store, run, None), sum(own, ()))
            order = tuple(rng.sample(offices, len(offices)))
            self.assertEqual(weavings.sorted_run(store=store, run=run, order=order), sum((own[k] for k in order), ()))

    def test_errors(self):
        for order in [value for value in not_tuples() if value is not None] + [(), (0, 1), (0, 1, 1), (0, 1, 2, 3), (1, 2, 3),
                                                                              (0, True, 2), (0, 1, "2"), (0, Alike(), 2), [0, 1, 2]]:
            self.assertEqual(error_of(self, InvalidNumber, weavings.sorted_run, STORE, ("up",), order).word, "order")
            self.assertEqual(error_of(self, InvalidRun, weavings.sorted_run, STORE, ("up", "x"), order).at, 1)
        self.assertEqual(error_of(self, InvalidRun, weavings.sorted_run, STORE, None).at, -1)
        long = ("zero", "up") * 5000
        self.assertEqual(weavings.sorted_run(STORE, long, (2, 0, 1)), ("up",) * 5000 + ("zero",) * 5000)


class GridTest(unittest.TestCase):

    def test_all_weavings_tried(self):
        rng = random.Random(76)
        several = 0
        for store in many_stores(77, 250):
            runs = []
            for k in range(len(store.offices)):
                names = names_in(store, [k])
                runs.append(tuple(rng.choice(names) for _ in range(rng.randrange(4))) if names else ())
            runs = tuple(runs)
            if sum(map(len, runs)) > 6:
                continue
            state = rng.randrange(store.size)
            found = weave(runs)
            ends = [done(store, state, run)[0] for run in found]
            several += len(set(ends)) > 1
            pairs = tuple((end, ends.count(end)) for end in sorted(set(ends)))
            self.assertEqual(weavings.ends_of_weavings(store, state, runs), pairs)
            for goal in range(store.size):
                first = found[ends.index(goal)] if goal in ends else None
                self.assertEqual(weavings.weaving_to(store, state, runs, goal), first)
            for office, own in enumerate(runs):
                for place in range(len(own)):
                    told = set()
                    for run in found:
                        at = [k for k, name in enumerate(run) if name in names_in(store, [office])][place]
                        told.add(done(store, state, run)[1][at])
                    self.assertEqual(weavings.answers_of_weavings(store, state, runs, office, place), tuple(sorted(told)))
        self.assertGreater(several, 10)

    def test_errors_in_order(self):
        good = (("up", "up"), ("zero",), ())
        wide = (("up",) * 10, ("zero",) * 90, ())
        calls = [(weavings.ends_of_weavings, ()), (weavings.weaving_to, (9,)), (weavings.answers_of_weavings, (9, 9))]
        for call, more in calls:
            for state in not_numbers() + [3]:
                error_of(self, InvalidState, call, STORE, state, None, *more)
            wrong = [(value, -1) for value in not_tuples()] + [(good[:2], -1), (good + ((),), -1), (list(good), -1)]
            wrong += [((("up",), ("up",), None), 1), ((("zero",), (), ()), 0), (((), (), ("up",)), 2), ((None, 5, ()), 0)]
            wrong += [((("up",) * 9999 + (0,), (), ()), 0), ((["up"], (), ()), 0)]
            for runs, at in wrong:
                self.assertEqual(error_of(self, InvalidRun, call, STORE, 0, runs, *more).at, at)
        for goal in not_numbers() + [3]:
            error_of(self, InvalidState, weavings.weaving_to, STORE, 0, wide, goal)
        for office in not_numbers() + [3]:
            error = error_of(self, InvalidNumber, weavings.answers_of_weavings, STORE, 0, wide, office, -1)
            self.assertEqual(error.word, "office")
        for place in not_numbers() + [10]:
            error = error_of(self, InvalidNumber, weavings.answers_of_weavings, STORE, 0, wide, 0, place)
            self.assertEqual(error.word, "place")
        self.assertEqual(error_of(self, InvalidNumber, weavings.answers_of_weavings, STORE, 0, wide, 2, 0).word, "place")

    def test_wide(self):
        big = big_store()
        names = [names_in(big, [k]) for k in range(8)]
        for lengths, wide in (((999,) + (0,) * 7, False), ((1000,) + (0,) * 7, True), ((9, 9, 9) + (0,) * 5, False),
                              ((6, 10, 12) + (0,) * 5, True), ((0,) * 7 + (999,), False), ((1,) * 8, False), ((2,) * 8, True),
                              ((9, 9, 9) + (0,) * 4 + (1,), True), ((10000,) + (0,) * 7, True)):
            runs = tuple(tuple(names[k][j % 5] for j in range(length)) for k, length in enumerate(lengths))
            calls = [(weavings.ends_of_weavings, ()), (weavings.weaving_to, (0,))]
            calls += [(weavings.answers_of_weavings, (k, 0)) for k in range(8) if lengths[k]]
            for call, more in calls:
                if wide:
                    self.assertEqual(error_of(self, Refused, call, big, 0, runs, *more).word, "wide")
                else:
                    call(big, 0, runs, *more)
            if not wide:
                end = done(big, 3, sum(runs, ()))[0]
                found = weavings.ends_of_weavings(store=big, state=3, runs=runs)
                self.assertEqual(found, ((end, weavings.count_weavings(runs)),))
                self.assertEqual(weavings.weaving_to(store=big, state=3, runs=runs, goal=end), sum(runs, ()))

    def test_keywords(self):
        runs = (("up",), ("zero",), ())
        self.assertEqual(weavings.answers_of_weavings(store=STORE, state=2, runs=runs, office=1, place=0), (2,))
        self.assertEqual(weavings.ends_of_weavings(STORE, 2, ((), (), ())), ((2, 1),))
        self.assertEqual(weavings.weaving_to(STORE, 2, ((), (), ()), 2), ())
        self.assertIsNone(weavings.weaving_to(STORE, 2, ((), (), ()), 1))


if __name__ == "__main__":
    unittest.main()
