"""[100]: states that last, and where runs come to rest."""

import itertools
import random
import unittest

from sharedunseen import rests
from sharedunseen.errors import InvalidNumber, Refused
from sharedunseen.homes import joint_homes
from sharedunseen.stores import Store
from tests.sorts import all_sorts, is_smooth, other_answers, random_part_store, random_run, runs_up_to, smooth_stores
from tests.sorts import sinking_goals, whole_stores
from tests.support import Alike, Odd, Touchy, big_store, done, error_of, errors_in_order, many_stores, names_in, not_numbers
from tests.support import not_tuples, refused, wrong_lots, wrong_states
from tests.test_homes import TAIL, lots_of, reach_by_words
from tests.test_merges import GOOD, ROUGH, shuffled


def lasting_by_words(reach):
    return [all(state in reach[there] for there in reached) for state, reached in enumerate(reach)]


def last_by_words(store, state, offices):
    """The numbers of the joint homes of lasting states that are reached."""
    reach = reach_by_words(store, offices)
    lasting = lasting_by_words(reach)
    lot = tuple(range(len(store.offices))) if offices is None else offices
    view = joint_homes(store, lot)
    return tuple(sorted({view[there] for there in reach[state] if lasting[there]}))


def some_run_into(rng, store, state, office, home):
    """Some run of an office that ends in a lot of states."""
    while True:
        run, here = (), state
        for _ in range(rng.randrange(3 * store.size + 1)):
            names = names_in(store, [office])
            if here in home and (not names or rng.randrange(2)):
                break
            run += (rng.choice(names),)
            here = done(store, here, run[-1:])[0]
        if here in home:
            return run


def fates(store, state):
    """Each choice with its fate."""
    lots = [rests.last_homes(store, state, (k,)) for k in range(len(store.offices))]
    return {choice: rests.fate(store, state, choice) for choice in itertools.product(*lots)}


def falling_stores(seed, many):
    """Smooth stores in which offices may fall to several homes."""
    rng = random.Random(seed)
    for k in range(many):
        store = random_part_store(rng, 2 + k % 2, most=6, counts=(1, 4), size=48, goals_of=sinking_goals)
        yield store if k % 3 else other_answers(rng, store)


class LastHomesTest(unittest.TestCase):

    def test_by_their_words(self):
        counts = set()
        for store in itertools.chain(all_sorts(901, 120), falling_stores(910, 30)):
            for state in range(store.size):
                for offices in lots_of(len(store.offices))[:6] + [None]:
                    told = rests.last_homes(store, state, offices)
                    self.assertEqual(told, last_by_words(store, state, offices))
                    counts.add(len(told))
                self.assertEqual(rests.last_homes(store, state), rests.last_homes(store, state, None))
        self.assertTrue({1, 2, 3} <= counts, counts)

    def test_errors(self):
        for store in (GOOD, ROUGH):
            errors_in_order(self, rests.last_homes, {"store": store, "state": 1, "offices": (0, 2)}, [
                ("state", wrong_states(3)),
                ("offices", [(value, told) for value, told in wrong_lots("offices", (3,)) if value is not None])])

    def test_edges(self):
        self.assertEqual(rests.last_homes(Store(1, ((), ())), 0), (0,))
        self.assertEqual(rests.last_homes(store=TAIL, state=3, offices=(1,)), (3,))
        self.assertEqual(rests.last_homes(TAIL, 3, ()), (3,))
        self.assertEqual(rests.last_homes(TAIL, 3), (199,))
        self.assertEqual(rests.last_homes(big_store(), 3), (0,))


class RestRunsTest(unittest.TestCase):

    def test_all_runs_tried(self):
        lengths = set()
        for store in itertools.chain(all_sorts(902, 100), many_stores(903, 100, sizes=(3, 7), operations=(1, 3))):
            for state in range(store.size):
                told = rests.rest_runs(store, state)
                self.assertEqual(len(told), len(store.offices))
                for office, run in enumerate(told):
                    lasting = lasting_by_words(reach_by_words(store, [office]))
                    self.assertIn(done(store, state, run)[0], [k for k, last in enumerate(lasting) if last])
                    if len(run) < 7:
                        fitting = [row for row in runs_up_to(names_in(store, [office]), len(run)) if lasting[done(store, state, row)[0]]]
                        self.assertEqual(fitting[0], run)
                    lengths.add(len(run))
        self.assertTrue({0, 1, 2, 3} <= lengths, lengths)

    def test_errors(self):
        for store in (GOOD, ROUGH):
            errors_in_order(self, rests.rest_runs, {"store": store, "state": 1}, [("state", wrong_states(3))])

    def test_edges(self):
        self.assertEqual(rests.rest_runs(Store(1, ((), (), ())), 0), ((), (), ()))
        self.assertEqual(rests.rest_runs(store=TAIL, state=3), (("go",) * 196, ()))
        self.assertEqual(rests.rest_runs(big_store(), 3), ((),) * 8)


class FateTest(unittest.TestCase):

    def test_all_runs_lead_to_one_region(self):
        """All runs to the chosen homes, in any weaving; and each region that can be reached at last is some fate."""
        rng = random.Random(904)
        several = 0
        for store in itertools.chain(smooth_stores(905, 80), falling_stores(911, 150)):
            regions = joint_homes(store, tuple(range(len(store.offices))))
            for state in rng.sample(range(store.size), min(4, store.size)):
                told = fates(store, state)
                for choice, region in told.items():
                    for _ in range(2):
                        runs = []
                        for office, number in enumerate(choice):
                            view = joint_homes(store, (office,))
                            runs.append(some_run_into(rng, store, state, office, [k for k in range(store.size) if view[k] == number]))
                        self.assertEqual(regions[done(store, state, shuffled(rng, runs))[0]], region)
                last = rests.last_homes(store, state)
                self.assertEqual(tuple(sorted(set(told.values()))), last)
                several += len(last) > 1 and len(told) > len(last)
        self.assertGreater(several, 3)

    def test_lasting_is_kept(self):
        """Runs of the others keep what lasts for offices, and each weaving of rest runs leads to what lasts for all."""
        rng = random.Random(906)
        fallen = 0
        for store in smooth_stores(907, 150):
            every = lasting_by_words(reach_by_words(store))
            for offices in lots_of(len(store.offices)):
                rest = [k for k in range(len(store.offices)) if k not in offices]
                lasting = lasting_by_words(reach_by_words(store, offices))
                for state in range(store.size):
                    if lasting[state]:
                        self.assertTrue(lasting[done(store, state, random_run(rng, store, 5, rest))[0]])
            for state in range(store.size):
                runs = rests.rest_runs(store, state)
                self.assertTrue(every[done(store, state, shuffled(rng, runs))[0]])
                fallen += any(runs)
        self.assertGreater(fallen, 50)

    def test_errors(self):
        ends = tuple((1 if s < 2 else s) for s in range(4))
        fall = Store(4, ((("a", ends, (0,) * 4), ("b", (2, 1, 2, 3), (0, 1, 0, 0))), (("c", (0, 1, 2, 3), (0,) * 4),)))
        self.assertEqual([rests.last_homes(fall, 0, (k,)) for k in (0, 1)], [(1, 2), (0,)])
        wrong = not_tuples() + [(), (1,), (1, 0, 0), [1, 0], (0, 0), (3, 0), (1, 1), (1, 200), (True, 0), (1, False), (1, None)]
        wrong += [(value, 0) for value in not_numbers() + [10 ** 20]] + [(1, value) for value in not_numbers() if value is not True]
        wrong += [(Odd(), Alike()), (1, Touchy())]
        choices = [(value, ("InvalidNumber", "choice")) for value in wrong]
        errors_in_order(self, rests.fate, {"store": fall, "state": 0, "choice": (1, 0)}, [
            ("state", wrong_states(4)), ("store", refused("ends", ROUGH)), ("choice", choices)])
        for store in all_sorts(908, 100):
            if not is_smooth(store):
                self.assertEqual(error_of(self, Refused, rests.fate, store, 0, None).word, "ends")
        self.assertEqual(error_of(self, InvalidNumber, rests.fate, GOOD, 0, (0, 0, 1)).word, "choice")

    def test_own_homes(self):
        """The numbers are those of each office's own last homes."""
        for store in whole_stores(909, 30):
            choice = tuple(rests.last_homes(store, 0, (k,))[0] for k in range(2))
            self.assertEqual(rests.fate(store, 0, choice), 0)

    def test_edges(self):
        self.assertEqual(rests.fate(Store(1, ((), ())), 0, (0, 0)), 0)
        self.assertEqual(rests.fate(store=TAIL, state=3, choice=(199, 3)), 199)
        choice = tuple(rests.last_homes(big_store(), 9, (k,))[0] for k in range(8))
        self.assertEqual(choice, (0, 1, 0, 1, 0, 1, 0, 1))
        self.assertEqual(rests.fate(big_store(), 9, choice), 0)


if __name__ == "__main__":
    unittest.main()
