"""[57], [58]: runs done many times."""

import math
import random
import unittest

from sharedunseen import powers
from sharedunseen.bases import tree_names
from sharedunseen.names import names_of, state_of
from sharedunseen.shared import measure
from sharedunseen.stores import Store
from tests.sorts import all_sorts, is_reversible, is_unseen, random_run, whole_stores
from tests.support import big_store, done, errors_in_order, many_stores, names_in, wrong_numbers, wrong_runs, wrong_states
from tests.test_merges import GOOD, ROUGH

FAR = [0, 1, 2, 3, 5, 64, 10 ** 9 + 7, 10 ** 18 - 1, 10 ** 18]
BEYOND = [10 ** 18 + 1, 10 ** 30]


def far(step, start, many):
    """What so many steps lead to, by jumps of powers of two."""
    seen = [start]
    places = {start: 0}
    while True:
        fresh = step(seen[-1])
        if fresh in places:
            break
        places[fresh] = len(seen)
        seen.append(fresh)
    if many < len(seen):
        return seen[many]
    first = places[fresh]
    return seen[first + (many - first) % (len(seen) - first)]


def left_by_words(names, run, own, many):
    """Each name of the run, one after another, as many times."""
    def step(pair):
        p, c = pair
        for name in run:
            p, factor = names.left[name][p]
            c = names.table[factor][c]
        return (p, c)
    return far(step, (own, 0), many)


def right_by_words(names, run, other, many):
    def step(pair):
        d, q = pair
        for name in run:
            factor, q = names.right[name][q]
            d = names.table[d][factor]
        return (d, q)
    return far(step, (0, other), many)


def sums_by_doubling(store, state, run, many):
    """The sums of the answers, by tables for 1, 2, 4 .. times."""
    jumps = [done(store, s, run) for s in range(store.size)]
    total = [0] * len(run)
    while many:
        if many & 1:
            total = [one + two for one, two in zip(total, jumps[state][1])]
            state = jumps[state][0]
        many >>= 1
        jumps = [(jumps[end][0], tuple(one + two for one, two in zip(told, jumps[end][1]))) for end, told in jumps]
    return tuple(total)


class NamesPowersTest(unittest.TestCase):

    def test_left_and_right(self):
        rng = random.Random(801)
        seen = set()
        for store in whole_stores(802, 120):
            names = tree_names(store, rng.randrange(store.size)) if rng.randrange(2) else names_of(store)
            for many in rng.sample(FAR, 4):
                run, own = random_run(rng, store, 5, (0,)), rng.randrange(max(names.owns) + 1)
                told = powers.left_power(names, run, own, many)
                self.assertEqual(told, left_by_words(names, run, own, many))
                other = rng.randrange(max(names.others) + 1)
                run = random_run(rng, store, 5, (1,))
                self.assertEqual(powers.right_power(names, run, other, many), right_by_words(names, run, other, many))
                seen.add((len(names.table), told[0] == own, told[1] == 0, many > 10))
        self.assertTrue({(6, False, False, False), (6, True, False, True), (4, False, False, True)} <= seen, seen)

    def test_ends(self):
        rng = random.Random(803)
        for store in whole_stores(804, 120):
            names = names_of(store)
            state = rng.randrange(store.size)
            run, other = random_run(rng, store, 4, (0,)), random_run(rng, store, 4, (1,))
            many, more = rng.choice(FAR), rng.choice(FAR)
            mine = far(lambda here: done(store, here, run)[0], state, many)
            yours = far(lambda here: done(store, here, other)[0], state, more)
            both = far(lambda here: done(store, here, other)[0], mine, more)
            self.assertEqual(powers.power_ends(names, state, run, many, other, more), (mine, yours, both))

    def test_errors(self):
        store = next(store for store in whole_stores(805, 99) if min(len(row) for row in store.offices) > 1
                     and min(measure(store)) > 1)
        names = names_of(store)
        a, b = names_in(store, (0,))[0], names_in(store, (1,))[0]
        owns, others = max(names.owns) + 1, max(names.others) + 1
        many = ("many", wrong_numbers("many", *BEYOND))
        errors_in_order(self, powers.left_power, {"names": names, "run": (a, a), "own": 1, "many": 10 ** 18},
                        [("run", wrong_runs(a, b)), ("own", wrong_numbers("own", owns)), many])
        errors_in_order(self, powers.right_power, {"names": names, "run": (b, b), "other": 1, "many": 10 ** 18},
                        [("run", wrong_runs(b, a)), ("other", wrong_numbers("other", others)), many])
        errors_in_order(self, powers.power_ends,
                        {"names": names, "state": 0, "run": (a,), "many": 10 ** 18, "other": (b,), "more": 10 ** 18}, [
                            ("state", wrong_states(store.size)), ("run", wrong_runs(a, b)), many,
                            ("other", wrong_runs(b, a)), ("more", wrong_numbers("more", *BEYOND))])

    def test_edges(self):
        one = names_of(Store(1, ((), ())))
        self.assertEqual(powers.left_power(one, (), 0, 10 ** 18), (0, 0))
        self.assertEqual(powers.right_power(names=one, run=(), other=0, many=0), (0, 0))
        self.assertEqual(powers.power_ends(one, 0, (), 0, (), 10 ** 18), (0, 0, 0))
        ring = tuple((s + 1) % 200 for s in range(200))
        names = names_of(Store(200, ((("a", ring, (0,) * 200),), (("b", ring, (0,) * 200),))))
        told = powers.power_ends(names=names, state=7, run=("a",) * 9999, many=10 ** 18, other=("b",) * 3, more=10 ** 18 - 1)
        self.assertEqual(told, ((7 + 9999 * 10 ** 18) % 200, (7 + 3 * (10 ** 18 - 1)) % 200,
                                (7 + 9999 * 10 ** 18 + 3 * (10 ** 18 - 1)) % 200))
        line = names_of(Store(200, ((("a", ring, (0,) * 200),), ())))
        end, factor = powers.left_power(line, ("a",) * 9999, line.owns[1], 10 ** 18)
        self.assertEqual(state_of(line, (end, factor, 0)), (1 + 9999 * 10 ** 18) % 200)


class TimesTest(unittest.TestCase):

    def test_by_their_words(self):
        rng = random.Random(811)
        found = set()
        for store in list(all_sorts(812, 150)) + list(many_stores(820, 150, sizes=(3, 8))):
            state, run = rng.randrange(store.size), random_run(rng, store, 4)
            states = [state]
            for _ in range(3 * store.size):
                states.append(done(store, states[-1], run)[0])
            tail, turn = min((t, r) for t in range(store.size) for r in range(1, store.size + 1) if states[t] == states[t + r])
            self.assertEqual(powers.tail_and_round(store, state, run), (tail, turn))
            found.add((tail, turn))
            for many in FAR + list(range(store.size)):
                self.assertEqual(powers.after_times(store, state, run, many), far(lambda s: done(store, s, run)[0], state, many))
                self.assertEqual(powers.answer_sums(store, state, run, many), sums_by_doubling(store, state, run, many))
        self.assertTrue({(0, 1), (1, 1), (2, 1), (0, 2), (1, 2), (0, 3)} <= found, found)

    def test_again_ends(self):
        rng = random.Random(813)
        sizes = set()
        for store in all_sorts(814, 200):
            state, run, other = rng.randrange(store.size), random_run(rng, store, 3), random_run(rng, store, 3)
            reached = [{state}, set()]
            for place, row in enumerate((run, other)):
                todo = sorted(reached[place])
                while todo:
                    fresh = done(store, todo.pop(), row)[0]
                    if fresh not in reached[place]:
                        reached[place].add(fresh)
                        todo.append(fresh)
                reached[1] |= reached[0]
            self.assertEqual(powers.again_ends(store, state, run, other), tuple(sorted(reached[1])))
            sizes.add(len(reached[1]))
        self.assertGreater(len(sizes), 4)

    def test_unseen_stores(self):
        """The sums at the places of an office are those of its own run alone."""
        rng = random.Random(815)
        for store in many_stores(816, 200):
            if not is_unseen(store):
                continue
            state, run, many = rng.randrange(store.size), random_run(rng, store, 6), rng.choice(FAR)
            sums = powers.answer_sums(store, state, run, many)
            for office in range(len(store.offices)):
                places = [k for k, name in enumerate(run) if store.office_of(name) == office]
                own = tuple(run[k] for k in places)
                self.assertEqual(powers.answer_sums(store, state, own, many), tuple(sums[k] for k in places))

    def test_unseen_reversible_stores(self):
        """Tails and rounds of a run are told by those of its own runs, and by the cells."""
        rng = random.Random(817)
        tails = set()
        for store in list(whole_stores(818, 100)) + list(whole_stores(819, 60, offices=3, size=16)):
            state, run = rng.randrange(store.size), random_run(rng, store, 8)
            tail, turn = powers.tail_and_round(store, state, run)
            offices = range(len(store.offices))
            own = [tuple(name for name in run if store.office_of(name) == k) for k in offices]
            alone = [powers.tail_and_round(store, state, row) for row in own]
            self.assertEqual(tail, max(pair[0] for pair in alone))
            least = math.lcm(*[pair[1] for pair in alone])
            self.assertEqual(least % turn, 0)
            self.assertEqual(math.lcm(*[measure(store, office=k)[1] for k in offices]) % (least // turn), 0)
            tails.add((tail, turn == least))
            (a, b), (c, d) = alone[:2]
            many = len(powers.again_ends(store, state, own[0], own[1]))
            sizes = [measure(store, office=k)[1] for k in (0, 1)]
            self.assertTrue([n for n in range(1, store.size + 1) if not [m for m in (b, d, *sizes) if m % n]
                             and many == a * (c + d) + c * b + b * d // n])
        self.assertTrue({(0, True), (0, False), (1, True)} <= tails, tails)

    def test_errors(self):
        for store in (GOOD, ROUGH):
            state, run = ("state", wrong_states(3)), ("run", wrong_runs("b", "d"))
            many = ("many", wrong_numbers("many", *BEYOND))
            errors_in_order(self, powers.tail_and_round, {"store": store, "state": 1, "run": ("a", "b")}, [state, run])
            for call in (powers.after_times, powers.answer_sums):
                errors_in_order(self, call, {"store": store, "state": 1, "run": ("a", "b"), "many": 10 ** 18}, [state, run, many])
            errors_in_order(self, powers.again_ends, {"store": store, "state": 1, "run": ("a", "b"), "other": ("c",)},
                            [state, run, ("other", wrong_runs("b", "d"))])

    def test_edges(self):
        one = Store(1, ((), ()))
        self.assertEqual(powers.tail_and_round(one, 0, ()), (0, 1))
        self.assertEqual((powers.after_times(one, 0, (), 10 ** 18), powers.answer_sums(one, 0, (), 10 ** 18)), (0, ()))
        self.assertEqual(powers.again_ends(one, 0, (), ()), (0,))
        self.assertEqual(powers.tail_and_round(GOOD, 2, ()), (0, 1))
        self.assertEqual(powers.again_ends(GOOD, 2, (), ("a",)), (0, 1, 2))
        most = 10 ** 12
        slow = Store(200, ((("a", tuple(min(s + 1, 199) for s in range(200)), (most,) * 200),),
                           (("b", tuple((s + 1) % 200 for s in range(200)), (1,) * 200),)))
        self.assertEqual(powers.tail_and_round(slow, 0, ("a",)), (199, 1))
        self.assertEqual(powers.answer_sums(slow, 0, ("a",), 10 ** 18), (10 ** 30,))
        run = ("b",) * 10000
        self.assertEqual(powers.tail_and_round(slow, 0, run[:9999]), (0, 200))
        self.assertEqual(powers.answer_sums(slow, 3, run[:9999], 10 ** 18), (10 ** 18,) * 9999)
        self.assertEqual(powers.after_times(store=slow, state=3, run=run[:9999], many=10 ** 18 - 1), 4)
        self.assertEqual(powers.again_ends(store=slow, state=0, run=run[:9999], other=run), tuple(range(200)))
        self.assertEqual(powers.tail_and_round(big_store(), 0, tuple(names_in(big_store())) * 250), (0, 1))


if __name__ == "__main__":
    unittest.main()
