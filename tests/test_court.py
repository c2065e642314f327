"""[22], [25]: verdicts, and the four sorts of stores."""

import itertools
import random
import unittest

from sharedunseen import court
from sharedunseen.clashes import clash_run
from sharedunseen.notices import noticed
from sharedunseen.steady import answers_hold
from sharedunseen.stores import Store
from tests.sorts import all_sorts, random_run
from tests.support import Alike, Odd, Touchy, big_store, done, names_in, odd_things
from tests.test_clashes import clashes_by_words
from tests.test_notices import cut_by_words, noticed_by_words

SEEN = Store(2, ((("a", (1, 0), (0, 0)),), (("b", (0, 0), (0, 1)),)))
QUIET = Store(2, ((("a", (1, 0), (0, 0)),), (("b", (1, 0), (3, 3)),)))


def copy_of(store):
    return Store(store.size, store.offices)


class CourtTest(unittest.TestCase):

    def test_verdicts(self):
        kinds = set()
        for store in all_sorts(211, 200):
            verdict = court.court(store)
            clashes = clashes_by_words(store)
            kinds.add(verdict.__class__)
            self.assertEqual(verdict.store, store)
            if clashes:
                self.assertIs(verdict.__class__, court.Seen)
                self.assertEqual(verdict.clash, clashes[0])
            else:
                self.assertIs(verdict.__class__, court.Unseen)
            self.assertIs(court.check_verdict(store, verdict), True)
            self.assertIs(court.check_verdict(copy_of(store), verdict), True)
            self.assertIs(court.check_verdict(store, court.Unseen(copy_of(store))), not clashes)
            for clash in clashes[-3:]:
                self.assertIs(court.check_verdict(store, court.Seen(copy_of(store), clash)), True)
        self.assertEqual(len(kinds), 2)

    def test_cuts_of_two_operations(self):
        """A store is unseen exactly if nothing is noticed in cuts of two operations, or in any."""
        rng = random.Random(212)
        for store in all_sorts(213, 120):
            names = names_in(store)
            pairs = itertools.product(range(store.size), names, names)
            heard = any(noticed_by_words(store, state, (one, other)) for state, one, other in pairs)
            verdict = court.court(store)
            self.assertIs(heard, isinstance(verdict, court.Seen))
            if heard:
                self.assertIsNotNone(noticed(store, verdict.clash[2], clash_run(store, verdict.clash)))
            for _ in range(5):
                found = noticed_by_words(store, rng.randrange(store.size), random_run(rng, store, 6))
                self.assertTrue(heard or found is None)

    def test_ends_hold_in_cuts(self):
        """All copies end as the single store does exactly if ends hold, and so it is with answers."""
        rng = random.Random(214)
        sorts = set()
        for store in all_sorts(215, 200):
            ends, answers = court.sort_of(store)
            sorts.add((ends, answers))
            clashes = clashes_by_words(store)
            self.assertIs(ends, not [clash for clash in clashes if clash[3] == "ends"])
            self.assertIs(answers, answers_hold(store))
            self.assertIs(isinstance(court.court(store), court.Unseen), ends and answers)
            if ends:
                self.assertIs(answers, not clashes)
            states = (rng.randrange(store.size),) * len(store.offices)
            for _ in range(8):
                run = random_run(rng, store, 6)
                told, copies = cut_by_words(store, states, run)
                end, single = done(store, states[0], run)
                self.assertTrue(not ends or set(copies) == {end})
                self.assertTrue(not answers or told == single)
        self.assertEqual(len(sorts), 4)

    def test_many_cuts(self):
        """Answers that hold in every cut hold in any sequence of cuts, even from copies that are unlike."""
        rng = random.Random(216)
        unlike = 0
        for store in all_sorts(217, 300):
            held = [office for office in range(len(store.offices)) if answers_hold(store, office=office)]
            owners = {name: office for office in range(len(store.offices)) for name in names_in(store, [office])}
            state = rng.randrange(store.size)
            states = (state,) * len(store.offices)
            for _ in range(4):
                run = random_run(rng, store, 4)
                told, states = cut_by_words(store, states, run)
                state, single = done(store, state, run)
                unlike += len(set(states)) > 1
                for name, answer, right in zip(run, told, single):
                    self.assertTrue(owners[name] not in held or answer == right)
        self.assertGreater(unlike, 20)

    def test_other_stores(self):
        for other in (SEEN, Store(2, (QUIET.offices[0], ())), Store(2, QUIET.offices + ((),)), Store(1, ((), ()))):
            self.assertIs(court.check_verdict(QUIET, court.Unseen(other)), False)
        clash = court.court(SEEN).clash
        for other in (QUIET, Store(2, SEEN.offices + ((),)), Store(2, SEEN.offices[::-1])):
            self.assertIs(court.check_verdict(SEEN, court.Seen(other, clash)), False)
        self.assertIs(court.check_verdict(SEEN, court.Unseen(SEEN)), False)
        self.assertIs(court.check_verdict(QUIET, court.Seen(QUIET, clash)), False)

    def test_any_value(self):
        clash = court.court(SEEN).clash
        self.assertEqual(clash, ("a", "b", 0, "ends"))
        odd = Odd()
        odd.store, odd.clash = SEEN, clash
        for value in odd_things() + [True, 0, (), "abc", {}, SEEN, QUIET, clash, odd, court.Unseen, court.Seen]:
            self.assertIs(court.check_verdict(SEEN, value), False)
            self.assertIs(court.check_verdict(QUIET, value), False)
            self.assertIs(court.check_verdict(QUIET, court.Unseen(value)), value is QUIET)
            self.assertIs(court.check_verdict(SEEN, court.Seen(value, clash)), value is SEEN)
            self.assertIs(court.check_verdict(SEEN, court.Seen(SEEN, value)), value is clash)
        wrong = [("b", "a", 0, "ends"), ("a", "b", 2, "ends"), ("a", "b", False, "ends"), ("a", "b", 0, "answer"), list(clash)]
        wrong += [clash[:3], clash + (0,), ("a", "x", 0, "ends"), ("a", "a", 0, "ends"), ("a", "b", 0.0, "ends")]
        for at in range(4):
            wrong += [clash[:at] + (value,) + clash[at + 1:] for value in (None, Alike(), Odd(), Touchy(), True, [], ())]
        for value in wrong:
            self.assertIs(court.check_verdict(store=SEEN, value=court.Seen(SEEN, value)), False)

    def test_kept_arguments(self):
        verdict = court.Seen(store=1, clash=[2])
        self.assertEqual((verdict.store, verdict.clash), (1, [2]))
        self.assertEqual(court.Unseen(store=3).store, 3)
        self.assertNotEqual(court.Unseen(QUIET), court.Unseen(QUIET))

    def test_big(self):
        verdict = court.court(store=big_store())
        self.assertTrue(court.check_verdict(big_store(), verdict))
        self.assertEqual(court.sort_of(store=big_store()), (True, False))
        quiet = Store(200, tuple(tuple((n, e, (0,) * 200) for n, e, _ in row) for row in big_store().offices))
        self.assertTrue(court.check_verdict(quiet, court.court(quiet)))
        self.assertEqual(court.sort_of(quiet), (True, True))


if __name__ == "__main__":
    unittest.main()
