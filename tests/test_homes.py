"""[26], [27], [28], [32]: homes, states that last, and meetings."""

import itertools
import random
import unittest

from sharedunseen import homes
from sharedunseen.clashes import all_clashes
from sharedunseen.errors import Refused
from sharedunseen.stores import Store
from tests.support import big_store, done, error_of, many_stores, names_in, product_store

TAIL = Store(200, ((("go", tuple(min(s + 1, 199) for s in range(200)), (0,) * 200),), ()))


def reach_by_words(store, offices=None):
    """For each state the set of the states to which runs of the offices lead it."""
    rows = [[ends for _, ends, _ in store.offices[k]] for k in (range(len(store.offices)) if offices is None else offices)]
    found = []
    for state in range(store.size):
        seen = {state}
        while True:
            fresh = seen | {ends[s] for s in seen for row in rows for ends in row}
            if fresh == seen:
                break
            seen = fresh
        found.append(seen)
    return found


def home_by_words(reach, state):
    return {other for other in reach[state] if state in reach[other]}


def lots_of(many):
    return [lot for k in range(many + 1) for lot in itertools.combinations(range(many), k)]


class HomesTest(unittest.TestCase):

    def test_by_their_words(self):
        orders = 0
        for store in many_stores(101, 150):
            for offices in lots_of(len(store.offices))[:6]:
                reach = reach_by_words(store, offices)
                view = homes.joint_homes(store, offices)
                numbers = []
                for state in range(store.size):
                    least = min(home_by_words(reach, state))
                    numbers.append(max(numbers, default=-1) + 1 if least == state else numbers[least])
                self.assertEqual(view, tuple(numbers))
                pairs = {(view[s], view[t]) for s in range(store.size) for t in reach[s] if view[s] != view[t]}
                self.assertEqual(homes.home_order(store, offices), tuple(sorted(pairs)))
                orders += len(pairs) > 2
                lasting = tuple(s for s in range(store.size) if all(s in reach[t] for t in reach[s]))
                self.assertEqual(homes.lasting_states(store, offices), lasting)
            for office in range(len(store.offices)):
                self.assertEqual(homes.homes(store, office), homes.joint_homes(store, (office,)))
            every = tuple(range(len(store.offices)))
            self.assertEqual(homes.lasting_states(store), homes.lasting_states(store, every))
            self.assertEqual(homes.lasting_states(store, None), homes.lasting_states(store, every))
            self.assertEqual(homes.joint_homes(store=store, offices=()), tuple(range(store.size)))
            self.assertEqual(homes.lasting_states(store=store, offices=()), tuple(range(store.size)))
            self.assertEqual(homes.home_order(store=store, offices=()), ())
        self.assertGreater(orders, 20)

    def test_what_the_document_says_of_smooth_stores(self):
        rng = random.Random(102)
        for _ in range(100):
            store = product_store(rng, offices=rng.randrange(2, 4))
            alone = [set(homes.lasting_states(store, (k,))) for k in range(len(store.offices))]
            self.assertEqual(set(homes.lasting_states(store)), set.intersection(*alone))

    def test_big(self):
        store = big_store()
        self.assertEqual(homes.joint_homes(store, (0, 1)), (0,) * 200)
        self.assertEqual(homes.homes(store=store, office=7), tuple(s % 8 for s in range(200)))
        self.assertEqual(homes.homes(TAIL, 0), tuple(range(200)))
        self.assertEqual(len(homes.home_order(TAIL, (0,))), 199 * 100)
        self.assertEqual(homes.lasting_states(TAIL), (199,))
        self.assertEqual(homes.closed_lot(TAIL), (199,))


class ReversibleTest(unittest.TestCase):

    def closed_by_words(self, store):
        for size in range(1, store.size):
            for lot in itertools.combinations(range(store.size), size):
                if all(ends[s] in lot for row in store.offices for _, ends, _ in row for s in lot):
                    return lot
        return None

    def test_all_lots_tried(self):
        verdicts = {}
        for store in many_stores(103, 300, sizes=(1, 8)):
            if store.size > 9:
                continue
            lot = self.closed_by_words(store)
            self.assertEqual(homes.closed_lot(store=store), lot)
            self.assertIs(homes.is_reversible(store=store), lot is None)
            reach = reach_by_words(store)
            self.assertIs(homes.is_reversible(store), all(len(seen) == store.size for seen in reach))
            verdicts[lot and len(lot)] = True
            if all_clashes(store):
                self.assertEqual(error_of(self, Refused, homes.need_unseen_reversible, store).word, "seen")
            elif lot is not None:
                self.assertEqual(error_of(self, Refused, homes.need_unseen_reversible, store).word, "oneway")
            else:
                self.assertIsNone(homes.need_unseen_reversible(store=store))
        self.assertTrue({None, 1, 2, 3} <= set(verdicts))

    def test_one_state(self):
        store = Store(1, ((), ()))
        self.assertIs(homes.is_reversible(store), True)
        self.assertIsNone(homes.closed_lot(store))
        self.assertIsNone(homes.need_unseen_reversible(store))
        apart = Store(3, ((), ()))
        self.assertEqual(homes.closed_lot(apart), (0,))
        self.assertEqual(error_of(self, Refused, homes.need_unseen_reversible, apart).word, "oneway")

    def test_seen_before_oneway(self):
        store = Store(3, ((("a", (0, 0, 0), (0, 0, 0)),), (("b", (1, 1, 1), (0, 0, 0)),)))
        self.assertEqual(error_of(self, Refused, homes.need_unseen_reversible, store).word, "seen")
        store = Store(2, ((("a", (1, 0), (0, 0)),), (("b", (0, 1), (0, 1)),)))
        self.assertEqual(error_of(self, Refused, homes.need_unseen_reversible, store).word, "seen")


class MeetingTest(unittest.TestCase):

    def test_meeting(self):
        for store in many_stores(104, 120):
            many = len(store.offices)
            for offices in lots_of(many)[:5] + lots_of(many)[-1:]:
                rest = tuple(k for k in range(many) if k not in offices)
                first, second = reach_by_words(store, offices), reach_by_words(store, rest)
                for one, other in itertools.islice(itertools.product(range(store.size), repeat=2), 20):
                    expected = home_by_words(first, one) & home_by_words(second, other)
                    self.assertEqual(homes.meeting(store, one, other, offices), tuple(sorted(expected)))
        self.assertEqual(homes.meeting(store=big_store(), one=3, other=1, offices=(7,)), tuple(range(3, 200, 8)))

    def test_crossing(self):
        found = {}
        for store in many_stores(105, 120, sizes=(1, 5), operations=(0, 2)):
            many = len(store.offices)
            for offices in lots_of(many)[:5] + lots_of(many)[-1:]:
                rest = [k for k in range(many) if k not in offices]
                for state, goal in itertools.product(range(store.size), repeat=2):
                    expected = self.crossing_by_words(store, state, goal, offices, rest)
                    self.assertEqual(homes.crossing(store, state, goal, offices), expected)
                    found[expected and (len(expected[0]), len(expected[1]))] = True
        self.assertTrue({None, (0, 0), (0, 2), (2, 0), (1, 1), (2, 1)} <= set(found))

    def crossing_by_words(self, store, state, goal, offices, rest):
        """All pairs of runs with few operations, in the order in which the document prefers them."""
        for total in range(2 * store.size - 1):
            for own in range(total + 1):
                for first in itertools.product(names_in(store, offices), repeat=own):
                    middle = done(store, state, first)[0]
                    for second in itertools.product(names_in(store, rest), repeat=total - own):
                        if done(store, middle, second)[0] == goal:
                            return first, second
            if total == 5:
                break
        return None

    def test_big(self):
        self.assertEqual(homes.crossing(TAIL, 0, 199, (0,)), (("go",) * 199, ()))
        self.assertEqual(homes.crossing(TAIL, 0, 199, (1,)), ((), ("go",) * 199))
        self.assertIsNone(homes.crossing(store=TAIL, state=1, goal=0, offices=(0,)))
        store = big_store()
        own, rest = homes.crossing(store, 0, 79, (7,))
        self.assertEqual((len(own) + len(rest), done(store, 0, own + rest)[0]), (2, 79))
        self.assertEqual(homes.crossing(store, 5, 5, (0, 1)), ((), ()))


if __name__ == "__main__":
    unittest.main()
