"""[59], [60]: runs of told lengths, and phases."""

import itertools
import random
import unittest

from sharedunseen import lengths
from sharedunseen.errors import InvalidNumber, Refused
from sharedunseen.forms import made_names
from sharedunseen.homes import homes
from sharedunseen.names import store_of
from sharedunseen.shared import measure
from sharedunseen.stores import Store
from tests.sorts import all_sorts, is_reversible, is_unseen, whole_stores
from tests.support import Alike, Odd, Touchy, big_store, done, error_of, errors_in_order, many_stores, names_in
from tests.support import not_numbers, not_tuples, refused, wrong_numbers, wrong_states
from tests.test_groups import ring
from tests.test_merges import shuffled
from tests.test_shared import BOTH, ONEWAY, SEEN
from tests.test_steady import views

MOST = 10 ** 18
GOOD = Store(3, ((("a", (1, 2, 0), (0, 0, 0)),), (("b", (2, 0, 1), (0, 0, 0)),)))
SEEN_STORE = Store(3, ((("a", (1, 2, 0), (0, 1, 0)),), (("b", (2, 0, 1), (0, 0, 0)),)))


def unseen_stores(seed, many):
    """Unseen stores, reversible ones and others."""
    for store in many_stores(seed, many):
        if is_unseen(store):
            yield store
    yield from whole_stores(seed + 1, many // 4)
    yield from whole_stores(seed + 2, many // 4, offices=3, size=16)


def stepped(store, office, states):
    return frozenset(ends[s] for s in states for _, ends, _ in store.offices[office])


def far_states(store, office, states, many):
    """The states behind so many steps; the sets come round at last."""
    seen = [frozenset(states)]
    while len(seen) <= many:
        fresh = stepped(store, office, seen[-1])
        if fresh in seen:
            first = seen.index(fresh)
            return seen[first + (many - first) % (len(seen) - first)]
        seen.append(fresh)
    return seen[many]


def ends_by_words(store, state, counts):
    states = frozenset([state])
    for office, many in enumerate(counts):
        states = far_states(store, office, states, many)
    return tuple(sorted(states))


def all_runs(store, counts):
    """All tuples of runs with these lengths, ascending."""
    return itertools.product(*[itertools.product(names_in(store, [k]), repeat=many) for k, many in enumerate(counts)])


def not_lengths(many):
    wrong = not_tuples() + [(), (0,) * (many - 1), (0,) * (many + 1), [0] * many]
    for item in not_numbers() + [MOST + 1, 10 ** 30, -1, Odd(), Touchy()]:
        wrong += [(item,) + (0,) * (many - 1), (0,) * (many - 1) + (item,)]
    return [(value, ("InvalidNumber", "lengths")) for value in wrong]


class EndsByTest(unittest.TestCase):

    def test_all_runs_tried(self):
        rng = random.Random(1001)
        counts = set()
        for store in unseen_stores(1002, 150):
            for _ in range(2):
                told = tuple(rng.randrange(3) for _ in store.offices)
                state = rng.randrange(store.size)
                ends = {}
                for runs in all_runs(store, told):
                    end = done(store, state, shuffled(rng, runs))[0]
                    ends.setdefault(end, runs)
                self.assertEqual(lengths.ends_by(store, state, told), tuple(sorted(ends)))
                for goal in range(store.size):
                    self.assertEqual(lengths.runs_by(store, state, told, goal), ends.get(goal))
                counts.add(len(ends))
        self.assertTrue({0, 1, 2, 3, 4} <= counts, counts)

    def test_great_lengths(self):
        rng = random.Random(1003)
        for store in unseen_stores(1004, 150):
            for many in (3, 7, 64, 10 ** 9 + 9, MOST - 1, MOST):
                told = tuple(rng.choice((0, many, rng.randrange(many))) for _ in store.offices)
                state = rng.randrange(store.size)
                self.assertEqual(lengths.ends_by(store, state, told), ends_by_words(store, state, told))

    def test_runs_of_three_hundred(self):
        rng = random.Random(1005)
        found = [0, 0]
        for store in unseen_stores(1006, 60):
            cuts = sorted(rng.randrange(301) for _ in store.offices[1:])
            told = tuple(high - low for low, high in zip([0] + cuts, cuts + [300]))
            state, goal = rng.randrange(store.size), rng.randrange(store.size)
            runs = lengths.runs_by(store, state, told, goal)
            found[runs is not None] += 1
            self.assertIs(runs is not None, goal in ends_by_words(store, state, told))
            if runs is not None:
                self.assertEqual(tuple(len(run) for run in runs), told)
                self.assertEqual(done(store, state, shuffled(rng, runs))[0], goal)
                for office, run in enumerate(runs):
                    self.assertLessEqual(set(run), set(names_in(store, [office])))
            self.assertEqual(error_of(self, Refused, lengths.runs_by, store, state, told[:-1] + (told[-1] + 1,), goal).word, "long")
        self.assertGreater(min(found), 5)

    def test_how_many(self):
        """At most e f ends, at least as many divided by the size of a cell, and not fewer than e or f."""
        rng = random.Random(1007)
        fewer = 0
        for store in itertools.chain(whole_stores(1008, 120), whole_stores(1009, 60, counts=(2, 4))):
            told = (rng.randrange(5), rng.randrange(5))
            state = rng.randrange(store.size)
            e, f = len(lengths.ends_by(store, state, (told[0], 0))), len(lengths.ends_by(store, state, (0, told[1])))
            many = len(lengths.ends_by(store, state, told))
            self.assertLessEqual(many, e * f)
            self.assertGreaterEqual(many * measure(store)[1], e * f)
            if e and f:
                self.assertGreaterEqual(many, max(e, f))
            fewer += 0 < many < e * f
        self.assertGreater(fewer, 10)

    def test_errors(self):
        errors_in_order(self, lengths.ends_by, {"store": GOOD, "state": 1, "lengths": (2, MOST)}, [
            ("state", wrong_states(3)), ("lengths", not_lengths(2)), ("store", refused("seen", SEEN_STORE))])
        errors_in_order(self, lengths.runs_by, {"store": GOOD, "state": 1, "lengths": (150, 150), "goal": 1}, [
            ("state", wrong_states(3)), ("lengths", not_lengths(2)), ("goal", wrong_states(3)),
            ("store", refused("seen", SEEN_STORE)), ("lengths", refused("long", (150, 151), (301, 0), (0, MOST), (MOST, MOST)))])
        for store in (ONEWAY, Store(1, ((), (), ()))):
            self.assertEqual(lengths.ends_by(store, 0, (0,) * len(store.offices)), (0,))

    def test_edges(self):
        one = Store(1, ((), ()))
        self.assertEqual((lengths.ends_by(one, 0, (0, 0)), lengths.ends_by(one, 0, (0, 1))), ((0,), ()))
        self.assertEqual((lengths.runs_by(one, 0, (0, 0), 0), lengths.runs_by(one, 0, (1, 0), 0)), (((), ()), None))
        self.assertEqual(lengths.ends_by(store=ONEWAY, state=0, lengths=(MOST, 0)), (1,))
        self.assertEqual(lengths.runs_by(store=ONEWAY, state=0, lengths=(300, 0), goal=1), (("a",) * 300, ()))
        # Each ring has its own length, so that all of them come round together only behind very many steps.
        sizes = (2, 3, 5, 7, 11, 13, 17, 19, 23, 29, 31)
        ends, first = [], 0
        for size in sizes:
            ends += [first + (k + 1) % size for k in range(size)]
            first += size
        rings = Store(first, ((("a", tuple(ends), (0,) * first),), ()))
        for state in (0, 40, 100, first - 1):
            self.assertEqual(lengths.ends_by(rings, state, (MOST, 0)), tuple(far_states(rings, 0, [state], MOST)))
        quiet = Store(200, tuple(tuple((n, e, (0,) * 200) for n, e, _ in row) for row in big_store().offices))
        self.assertEqual(lengths.ends_by(quiet, 3, (MOST,) * 8), ends_by_words(quiet, 3, (MOST,) * 8))
        told = lengths.runs_by(quiet, 3, (38, 38, 38, 38, 37, 37, 37, 37), 4)
        self.assertEqual(done(quiet, 3, sum(told, ()))[0] if told else 4, 4)


class PhasesTest(unittest.TestCase):

    def keeps(self, store, view):
        """Whether any two operations of an office lead any two states with equal numbers to equal numbers."""
        for row in store.offices:
            for (_, one, _), (_, other, _) in itertools.product(row, repeat=2):
                if any(view[s] == view[t] and view[one[s]] != view[other[t]] for s in range(store.size) for t in range(store.size)):
                    return False
        return True

    def test_all_views_tried(self):
        counts = set()
        for store in itertools.chain(whole_stores(1011, 60, size=6), whole_stores(1012, 30, offices=3, size=6, most=2)):
            if store.size > 6:
                continue
            fitting = [view for view in views(store.size) if self.keeps(store, view)]
            finest = max(fitting, key=max)
            for view in fitting:
                self.assertTrue(all(view[s] == view[t] for s in range(store.size) for t in range(s) if finest[s] == finest[t]))
            self.assertEqual(lengths.phases(store), finest)
            counts.add((max(finest) + 1, store.size))
        self.assertTrue({(1, 4), (2, 4), (4, 4), (3, 6), (2, 6), (6, 6)} <= counts, counts)

    def test_equally_many_operations(self):
        """States have one number exactly if runs with equally many operations of each office lead state 0 to both."""
        for store in itertools.chain(whole_stores(1013, 60, size=8), whole_stores(1014, 20, offices=3, size=6, most=2)):
            view = lengths.phases(store)
            together = set()
            for counts in itertools.product(range(2 * store.size + 2 if len(store.offices) == 2 else 8), repeat=len(store.offices)):
                ends = lengths.ends_by(store, 0, counts)
                together |= set(itertools.product(ends, repeat=2))
            self.assertEqual(together, {(s, t) for s in range(store.size) for t in range(store.size) if view[s] == view[t]})

    def test_steps(self):
        for store in itertools.chain(whole_stores(1015, 80), whole_stores(1016, 40, offices=3, size=16)):
            view = lengths.phases(store)
            steps = lengths.phase_steps(store)
            self.assertEqual(len(steps), len(store.offices))
            for row, step in zip(store.offices, steps):
                self.assertIs(step is None, not row)
                for _, ends, _ in row:
                    self.assertEqual([view[end] for end in ends], [step[view[s]] for s in range(store.size)])
                if row:
                    self.assertEqual(sorted(step), list(range(max(view) + 1)))
            for one, other in itertools.combinations([step for step in steps if step], 2):
                self.assertEqual([one[k] for k in other], [other[k] for k in one])

    def test_settled_runs(self):
        """Behind settled lengths the ends are exactly one phase, the one to which the steps lead."""
        rng = random.Random(1017)
        for store in itertools.chain(whole_stores(1018, 80), whole_stores(1019, 40, offices=3, size=16)):
            view, steps = lengths.phases(store), lengths.phase_steps(store)
            state = rng.randrange(store.size)
            phase, counts = view[state], []
            for office, row in enumerate(store.offices):
                counts.append(lengths.settling(store, office)[0] + rng.randrange(4) if row else 0)
                for _ in range(counts[-1]):
                    phase = steps[office][phase]
            ends = lengths.ends_by(store, state, tuple(counts))
            self.assertEqual(ends, tuple(s for s in range(store.size) if view[s] == phase))

    def test_parts_of_phases(self):
        """Phases may have unlike numbers of states, but the same number for each own part and other part."""
        rng = random.Random(1024)
        stores = list(whole_stores(1020, 80))
        while len(stores) < 140:
            parts = {}
            for name in "abcd":
                goals = [rng.choice((1, 2)), 0, 0]
                parts[name] = tuple((goal, rng.randrange(2)) for goal in goals)
            right = {name: tuple(pair[::-1] for pair in parts[name]) for name in "cd"}
            names = made_names(ring(2), {name: parts[name] for name in "ab"}, right, {name: (0, 0, 0) for name in "abcd"})
            stores += [store for store in [store_of(names)] if is_reversible(store)]
        seen = {}
        for store in stores:
            view, own, rest = lengths.phases(store), homes(store, 1), homes(store, 0)
            found = set()
            for number in range(max(view) + 1):
                states = [s for s in range(store.size) if view[s] == number]
                found.add((len(states), len({own[s] for s in states}) * len({rest[s] for s in states})))
            self.assertEqual({one * second == first * other for one, other in found for first, second in found}, {True})
            seen[len(found)] = seen.get(len(found), 0) + 1
        self.assertGreater(seen.get(2, 0) + seen.get(3, 0), 5, seen)

    def test_settling(self):
        found = set()
        for store in itertools.chain(whole_stores(1021, 120), whole_stores(1022, 40, offices=3, size=16)):
            for office, row in enumerate(store.offices):
                rows = [tuple(frozenset([s]) for s in range(store.size))]
                while rows[-1] not in rows[:-1]:
                    rows.append(tuple(stepped(store, office, states) for states in rows[-1]))
                length = rows.index(rows[-1])
                expected = (length, len(rows) - 1 - length)
                self.assertEqual(lengths.settling(store, office), expected)
                if not row:
                    self.assertEqual(expected, (1, 1))
                found.add(expected)
        self.assertTrue({(0, 1), (0, 2), (1, 1), (1, 2), (2, 1), (3, 1)} <= found, found)

    def test_errors(self):
        bad = refused("seen", SEEN, BOTH, SEEN_STORE) + refused("oneway", ONEWAY)
        for call in (lengths.phases, lengths.phase_steps):
            errors_in_order(self, call, {"store": GOOD}, [("store", bad)])
        errors_in_order(self, lengths.settling, {"store": GOOD, "office": 1}, [
            ("office", wrong_numbers("office", 2, Alike())), ("store", bad)])
        self.assertEqual(error_of(self, InvalidNumber, lengths.settling, SEEN, 2).word, "office")
        for store in all_sorts(1023, 100):
            if not is_unseen(store) or not is_reversible(store):
                word = error_of(self, Refused, lengths.phases, store).word
                self.assertEqual(word, "oneway" if is_unseen(store) else "seen")

    def test_edges(self):
        one = Store(1, ((), (("a", (0,), (0,)),)))
        self.assertEqual((lengths.phases(store=one), lengths.phase_steps(store=one)), ((0,), (None, (0,))))
        self.assertEqual((lengths.settling(one, 0), lengths.settling(store=one, office=1)), ((1, 1), (0, 1)))
        # The graph that settles as late as one of so many states can.
        turn = tuple((s + 1) % 200 for s in range(200))
        late = Store(200, ((("a", turn, (0,) * 200), ("b", turn[:199] + (1,), (0,) * 200)), ()))
        self.assertEqual(lengths.settling(late, 0), (199 * 199 + 1, 1))
        self.assertEqual(lengths.phases(late), (0,) * 200)
        self.assertEqual(len(lengths.ends_by(late, 0, (199 * 199, 0))), 199)
        self.assertEqual(len(lengths.ends_by(late, 0, (MOST, 0))), 200)
        quiet = Store(200, tuple(tuple((n, e, (0,) * 200) for n, e, _ in row) for row in big_store().offices))
        self.assertEqual(lengths.settling(quiet, 0)[1], 8)
        self.assertEqual(lengths.phases(quiet), tuple(s % 8 for s in range(200)))
        self.assertEqual(lengths.phase_steps(quiet)[2], (3, 4, 5, 6, 7, 0, 1, 2))


if __name__ == "__main__":
    unittest.main()
