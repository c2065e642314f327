"""[71]: what may be during a cut, and what its end shows."""

import itertools
import random
import unittest

from sharedunseen import learnt
from sharedunseen.errors import Refused
from sharedunseen.stores import Store
from tests.sorts import all_sorts, is_reversible, is_smooth, other_answers, random_run, runs_up_to, smooth_stores, whole_stores
from tests.support import big_store, done, error_of, errors_in_order, names_in, not_numbers, not_tuples, refused, wrong_lots
from tests.support import wrong_runs, wrong_states
from tests.test_homes import home_by_words, lots_of, reach_by_words
from tests.test_shared import ONEWAY

GOOD = Store(3, ((("a", (1, 2, 0), (0, 1, 2)),), (("b", (1, 2, 0), (0, 0, 1)),), (("c", (0, 1, 2), (0, 0, 0)),)))
ROUGH = Store(3, ((("a", (1, 1, 0), (0, 0, 0)),), (("b", (0, 2, 1), (0, 0, 0)),), (("c", (0, 0, 0), (0, 0, 0)),)))
ONEWAY_THREE = Store(3, ((("a", (1, 1, 1), (0, 0, 0)),), (("b", (0, 1, 2), (0, 0, 0)),), (("c", (0, 1, 2), (0, 0, 0)),)))
BOTH = Store(3, ((("a", (1, 1, 1), (0, 0, 0)),), (("b", (2, 2, 2), (0, 0, 0)),), (("c", (0, 1, 2), (0, 0, 0)),)))
WRONG_LOOKS = [(value, ("InvalidView", -1)) for value in not_tuples() + [(), (0, 0), (0, 0, 0, 0)]]
WRONG_LOOKS += [((10 ** 12, item, None), ("InvalidView", 1)) for item in not_numbers() + [10 ** 12 + 1]]


def rest_of(store, offices):
    return [k for k in range(len(store.offices)) if k not in offices]


def learnt_by_words(store, offices, state, run, others):
    """For each end the set of the states where `others` alone lead the state, over all runs of the others."""
    table = {name: (k, ends) for k, row in enumerate(store.offices) for name, ends, _ in row}
    seen = {(done(store, state, run)[0], state)}
    while True:
        fresh = set(seen)
        for here, alone in seen:
            for name in names_in(store, rest_of(store, offices)):
                office, ends = table[name]
                fresh.add((ends[here], ends[alone] if office in others else alone))
        if fresh == seen:
            break
        seen = fresh
    return {end: {alone for here, alone in seen if here == end} for end in range(store.size)}


class PossibleTest(unittest.TestCase):

    def test_by_their_words(self):
        rng = random.Random(631)
        found = set()
        for store in all_sorts(632, 200):
            for offices in lots_of(len(store.offices)):
                state = rng.randrange(store.size)
                look = tuple(rng.choice((0, 1, 7, 10 ** 12)) for _ in range(store.size))
                others = rest_of(store, offices)
                reach = reach_by_words(store, others)[state]
                expected = tuple(sorted({look[t] for t in reach}))
                self.assertEqual(learnt.possible(store, offices, state, look), expected)
                layer, sure = {state}, None
                for length in range(store.size + 1):
                    if any(look[t] != look[state] for t in layer):
                        sure = length - 1
                        break
                    layer |= {ends[t] for t in layer for k in others for _, ends, _ in store.offices[k]}
                self.assertEqual(learnt.sure_for(store, offices, state, look), sure)
                self.assertIs(sure is None, len(expected) == 1)
                found.add(sure)
        self.assertTrue({None, 0, 1, 2} <= found)

    def test_single_store(self):
        """In a smooth store the single store can be in what the others reach from the copy, and in no other state."""
        rng = random.Random(633)
        for store in smooth_stores(634, 100):
            for offices in lots_of(len(store.offices)):
                run = random_run(rng, store, 8)
                state = rng.randrange(store.size)
                own = tuple(name for name in run if store.office_of(name) in offices)
                copy = done(store, state, own)[0]
                reach = reach_by_words(store, rest_of(store, offices))
                self.assertIn(done(store, state, run)[0], reach[copy])

    def test_errors(self):
        good = {"store": GOOD, "offices": (0,), "state": 1, "look": (0, 10 ** 12, 3)}
        wrong = [("offices", wrong_lots("offices", (3,), None)), ("state", wrong_states(3)), ("look", WRONG_LOOKS)]
        for store in (GOOD, ROUGH, ONEWAY_THREE, BOTH):
            for call in (learnt.possible, learnt.sure_for):
                errors_in_order(self, call, {**good, "store": store}, wrong)

    def test_edges(self):
        one = Store(1, ((), ()))
        self.assertEqual((learnt.possible(one, (), 0, (7,)), learnt.sure_for(one, (0, 1), 0, (7,))), ((7,), None))
        self.assertEqual(learnt.possible(GOOD, (0, 1, 2), 1, (5, 4, 3)), (4,))
        self.assertIsNone(learnt.sure_for(GOOD, (0, 1, 2), 1, (5, 4, 3)))
        self.assertEqual(learnt.possible(GOOD, (), 1, (5, 4, 3)), (3, 4, 5))
        self.assertEqual(learnt.sure_for(GOOD, (0,), 1, (3, 4, 4)), 1)

    def test_big(self):
        line = Store(200, ((), (("go", tuple(min(s + 1, 199) for s in range(200)), (0,) * 200),)))
        look = (0,) * 199 + (10 ** 12,)
        self.assertEqual(learnt.sure_for(line, (0,), 0, look), 198)
        self.assertEqual(learnt.possible(line, (0,), 0, look), (0, 10 ** 12))
        self.assertIsNone(learnt.sure_for(line, (1,), 0, look))
        self.assertEqual(learnt.possible(big_store(), (0, 1), 3, tuple(range(200))), tuple(range(200)))


class LearntTest(unittest.TestCase):

    def test_by_its_words(self):
        rng = random.Random(641)
        sizes = set()
        for store in all_sorts(642, 160):
            for _ in range(4):
                offices = rng.choice(lots_of(len(store.offices)))
                rest = rest_of(store, offices)
                others = tuple(k for k in rest if rng.randrange(2))
                state, run = rng.randrange(store.size), random_run(rng, store, 4, offices)
                expected = learnt_by_words(store, offices, state, run, others)
                for end in range(store.size):
                    told = learnt.learnt(store, offices, state, run, end, others)
                    self.assertEqual(told, tuple(sorted(expected[end])))
                    sizes.add(len(told))
                for further in runs_up_to(names_in(store, rest), 2):
                    alone = tuple(name for name in further if store.office_of(name) in others)
                    end = done(store, state, run + further)[0]
                    self.assertIn(done(store, state, alone)[0], learnt.learnt(store, offices, state, run, end, others))
        self.assertTrue({0, 1, 2, 3} <= sizes)

    def test_errors(self):
        good = {"store": GOOD, "offices": (0, 2), "state": 1, "run": ("a", "c", "a"), "end": 2, "others": (1,)}
        common = [(lot, ("InvalidNumber", "others")) for lot in ((0,), (0, 1), (2,), (1, 2), (0, 1, 2))]
        wrong = [("offices", wrong_lots("offices", (3,), None)), ("state", wrong_states(3)), ("run", wrong_runs("a", "b")),
                 ("end", wrong_states(3)), ("others", wrong_lots("others", (3,), None) + common)]
        for store in (GOOD, ROUGH, ONEWAY_THREE, BOTH):
            errors_in_order(self, learnt.learnt, {**good, "store": store}, wrong)

    def test_edges(self):
        one = Store(1, ((), ()))
        self.assertEqual(learnt.learnt(one, (), 0, (), 0, (0, 1)), (0,))
        self.assertEqual(learnt.learnt(GOOD, (0,), 0, ("a",), 1, ()), (0,))
        self.assertEqual(learnt.learnt(GOOD, (0, 1, 2), 0, ("a",), 1, ()), (0,))
        self.assertEqual(learnt.learnt(GOOD, (0, 1, 2), 0, ("a",), 0, ()), ())
        self.assertEqual(learnt.learnt(GOOD, (0,), 0, ("a",) * 10000, 0, (1, 2)), (2,))
        self.assertEqual(learnt.learnt(big_store(), (0,), 0, (), 4, (1, 2, 3, 4, 5, 6, 7)), (4,))
        self.assertEqual(len(learnt.learnt(big_store(), (0,), 0, (), 4, (7,))), 25)


class HiddenTest(unittest.TestCase):

    def stores(self, seed):
        rng = random.Random(seed)
        for store in itertools.chain(whole_stores(seed, 40), whole_stores(seed, 40, offices=3),
                                     whole_stores(seed, 15, offices=4, most=2, size=16)):
            yield store if rng.randrange(2) else other_answers(rng, store)

    def test_all_results_have_one_size(self):
        rng = random.Random(651)
        sizes = set()
        for store in self.stores(652):
            for offices in lots_of(len(store.offices)):
                rest = rest_of(store, offices)
                others = tuple(k for k in rest if rng.randrange(2))
                neither = [k for k in rest if k not in others]
                many = learnt.hidden(store, offices, others)
                reach = reach_by_words(store, neither)
                beside = reach_by_words(store, others)
                state, run = rng.randrange(store.size), random_run(rng, store, 4, offices)
                results = [learnt.learnt(store, offices, state, run, end, others) for end in range(store.size)]
                results = [set(lot) for lot in results if lot]
                self.assertEqual({len(lot) for lot in results}, {many})
                for one, other in itertools.product(beside[state], repeat=2):
                    together = any(one in lot and other in lot for lot in results)
                    self.assertIs(together, other in home_by_words(reach, one))
                sizes.add((many, len(neither)))
        self.assertTrue({(1, 0), (1, 1), (2, 1), (3, 1), (2, 2)} <= sizes)

    def test_errors(self):
        good = {"store": GOOD, "offices": (0, 2), "others": (1,)}
        common = [(lot, ("InvalidNumber", "others")) for lot in ((0,), (0, 1), (2,), (1, 2), (0, 1, 2))]
        wrong = [("offices", wrong_lots("offices", (3,), None)), ("others", wrong_lots("others", (3,), None) + common),
                 ("store", refused("ends", ROUGH, BOTH) + refused("oneway", ONEWAY_THREE))]
        errors_in_order(self, learnt.hidden, good, wrong)
        for store in all_sorts(653, 200):
            if not is_smooth(store) or not is_reversible(store):
                word = "oneway" if is_smooth(store) else "ends"
                self.assertEqual(error_of(self, Refused, learnt.hidden, store, (0,), ()).word, word)

    def test_edges(self):
        self.assertEqual(learnt.hidden(Store(1, ((), ())), (), ()), 1)
        self.assertEqual(error_of(self, Refused, learnt.hidden, ONEWAY, (0,), ()).word, "oneway")
        self.assertEqual(learnt.hidden(GOOD, (), ()), 1)
        self.assertEqual(learnt.hidden(GOOD, (), (0,)), 3)
        self.assertEqual(learnt.hidden(GOOD, (1,), (0,)), 1)
        self.assertEqual(learnt.hidden(store=big_store(), offices=(0,), others=(1, 2)), 200)
        self.assertEqual(learnt.hidden(big_store(), (0, 1, 2, 3, 4, 5, 6), (7,)), 1)


if __name__ == "__main__":
    unittest.main()
