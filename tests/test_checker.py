"""[103]: claims."""

import itertools
import random
import unittest

from sharedunseen import checker
from sharedunseen.barring import Barred, least_bars
from sharedunseen.cards import pack
from sharedunseen.clashes import all_clashes
from sharedunseen.court import Seen, Unseen, court
from sharedunseen.edits import extends
from sharedunseen.errors import InvalidNumber, InvalidRun, InvalidState, Refused
from sharedunseen.forms import Turning, some_turning
from sharedunseen.islands import explanation
from sharedunseen.loops import unlike_runs
from sharedunseen.marks import Marks, least_marks
from sharedunseen.names import Names, names_of
from sharedunseen.notes import torn
from sharedunseen.orders import hanging_ring
from sharedunseen.reversal import OneWay, Reversible, reversal
from sharedunseen.sheets import Sheet, Uneven, sheet_of
from sharedunseen.steady import steady_view
from sharedunseen.stores import Store
from sharedunseen.sums import Bent, Sum, sum_of
from sharedunseen.undoing import undo_run
from sharedunseen.waits import Waits, least_waits
from tests.sorts import all_sorts, is_reversible, is_unseen, whole_stores
from tests.support import Alike, Odd, Touchy, error_of, many_stores, not_tuples
from tests.test_groups import ring

WORDS = ("barred", "clash", "explained", "given", "marks", "matching", "names", "reversal", "ring", "run", "sheet",
         "steady", "sum", "table", "torn", "turning", "undo", "unlike", "verdict", "waits")
BITS = Store(4, ((("a", (1, 0, 3, 2), (0, 1, 0, 1)), ("see", (0, 1, 2, 3), (0, 0, 1, 1))),
                 (("b", (2, 3, 0, 1), (0, 0, 1, 1)), ("look", (0, 1, 2, 3), (0, 1, 0, 1)))))
SEEN = Store(3, ((("a", (0, 2, 2), (0, 0, 1)),), (("b", (1, 1, 2), (0, 0, 0)),)))
QUIET = Store(4, ((("a", (1, 0, 3, 2), (0, 1, 0, 1)),), (("b", (2, 3, 0, 1), (0, 0, 1, 1)),)))
RING = Store(3, ((("a", (1, 2, 0), (0, 0, 0)),), (("b", (1, 2, 0), (0, 0, 0)),)))
ONEWAY = Store(2, ((("a", (1, 1), (0, 0)),), ()))


def both_claims():
    """For each word a claim that holds and one that does not."""
    lots = ((0,), (1,))
    rates = {"a": (0, 0, 0), "b": (1, 1, 1)}
    cards = pack(3)
    sheet = sheet_of(RING, rates)
    names, other = names_of(QUIET), names_of(RING)
    turning = some_turning(other, other, (1, 2, 0))
    barred, waits = least_bars(SEEN), least_waits(SEEN, (0,))
    seen, unseen = court(SEEN), court(QUIET)
    told = sum_of(RING)
    marks = least_marks(QUIET, "a")
    explained = (("a",), ("look",))
    return {
        "barred": [("barred", SEEN, barred), ("barred", SEEN, Barred(barred.prices, (), 0, barred.paper))],
        "clash": [("clash", SEEN, all_clashes(SEEN)[0]), ("clash", SEEN, ("a", "b", 2, "ends"))],
        "explained": [("explained", BITS, 0, lots, explained, explanation(BITS, 0, lots, explained)),
                      ("explained", BITS, 0, lots, explained, ("a", "look"))],
        "given": [("given", QUIET, 0, ("c", (1, 0, 3, 2), (0, 0, 0, 0))), ("given", QUIET, 0, ("b", (1, 0, 3, 2), (0, 0, 0, 0)))],
        "marks": [("marks", QUIET, "a", marks), ("marks", QUIET, "a", Marks(marks.view, ((),) * len(marks.runs)))],
        "matching": [("matching", ring(3), ring(3), (0, 2, 1)), ("matching", ring(3), ring(3), (1, 2, 0))],
        "names": [("names", QUIET, names), ("names", RING, names)],
        "reversal": [("reversal", RING, reversal(RING)), ("reversal", RING, OneWay((0,)))],
        "ring": [("ring", BITS, lots, 0, hanging_ring(BITS, lots, 0)), ("ring", BITS, lots, 0, ())],
        "run": [("run", RING, ("a", "b", "a")), ("run", RING, ("a", "c"))],
        "sheet": [("sheet", RING, rates, sheet), ("sheet", RING, rates, Uneven("a", "b", 0))],
        "steady": [("steady", QUIET, 0, steady_view(QUIET, 0)), ("steady", QUIET, 0, (0, 0, 0, 0))],
        "sum": [("sum", RING, told), ("sum", RING, Bent(("a", "b"), 0, 1))],
        "table": [("table", ring(5)), ("table", ((0, 1), (1, 1)))],
        "torn": [("torn", RING, torn(RING)), ("torn", RING, ((0, 0), 0, 0))],
        "turning": [("turning", other, other, turning), ("turning", other, other, Turning((0,), (0,), (0, 2, 1), (0,), (0,)))],
        "undo": [("undo", RING, 1, "a", undo_run(RING, 1, "a")), ("undo", RING, 1, "a", ("a",))],
        "unlike": [("unlike", cards, unlike_runs(cards)), ("unlike", cards, ((), (), 0))],
        "verdict": [("verdict", QUIET, unseen), ("verdict", QUIET, seen)],
        "waits": [("waits", SEEN, waits), ("waits", SEEN, Waits(waits.states, waits.prices, (), 0, waits.paper))],
    }


def more_of(rng, store):
    """The store with further operations and offices, some of them before others of their office."""
    names = [letter * 5 for letter in "stuvwxyz"]
    rows = [list(row) for row in store.offices]
    if rng.randrange(2) and len(rows) < 4:
        rows.append([])
    for row in rows:
        for _ in range(rng.randrange(2)):
            ends = tuple(rng.sample(range(store.size), store.size)) if rng.randrange(2) else tuple(range(store.size))
            told = tuple(rng.randrange(2) for _ in ends) if rng.randrange(3) == 0 else (0,) * store.size
            row.insert(rng.randrange(len(row) + 1), (names.pop(), ends, told))
    return Store(store.size, tuple(tuple(row) for row in rows))


def claims_of(rng, store):
    """Claims of a store that hold."""
    found = list(checker.gather(store))
    found += [("clash", store, clash) for clash in all_clashes(store)[:2]]
    names = store.names()
    found.append(("run", store, tuple(rng.choice(names) for _ in range(3)) if names else ()))
    for name in names[:2]:
        state = rng.randrange(store.size)
        run = undo_run(store, state, name)
        found += [("undo", store, state, name, run)] if run is not None else []
    for office in range(len(store.offices)):
        found.append(("steady", store, office, steady_view(store, office)))
        found.append(("given", store, office, ("nnnnn", tuple(range(store.size)), (0,) * store.size)))
    found.append(("barred", store, least_bars(store)))
    if is_unseen(store) and is_reversible(store) and len(store.offices) == 2:
        found.append(("names", store, names_of(store)))
    return [claim for claim in found if checker.check(claim)]


def carried_by_words(claim, store):
    """What carries over, as a tuple of the word and all parts."""
    word, first = claim[:2]
    value = claim[2]
    if first == store:
        return claim
    up = extends(store, first) and (word in ("clash", "run", "undo") or word == "verdict" and isinstance(value, Seen)
                                    or word == "reversal" and isinstance(value, Reversible))
    down = extends(first, store) and (word == "verdict" and isinstance(value, Unseen)
                                      or word == "reversal" and isinstance(value, OneWay)
                                      or word in ("given", "steady") and value < len(store.offices))
    return (word, store) + claim[2:] if up or down else None


class CheckTest(unittest.TestCase):

    def test_words(self):
        self.assertEqual(checker.claim_words(), WORDS)

    def test_each_word(self):
        claims = both_claims()
        self.assertEqual(tuple(sorted(claims)), WORDS)
        for word, (good, bad) in claims.items():
            self.assertEqual((good[0], bad[0]), (word, word))
            self.assertIs(checker.check(good), True, word)
            self.assertIs(checker.check(bad), False, word)
            self.assertIs(checker.check(claim=good), True)

    def test_no_claims(self):
        for word, (good, _) in both_claims().items():
            wrong = [good[:-1], good + (0,), good[1:], list(good), (word,), good[0], good[:1] + (good,), ("is_" + word,) + good[1:],
                     ("check_" + word,) + good[1:], (word.upper(),) + good[1:], (Alike(word),) + good[1:], (Odd(),) + good[1:],
                     (Touchy(),) + good[1:], (None,) + good[1:], (0,) + good[1:], (("a",),) + good[1:], ((),) + good[1:]]
            for value in wrong:
                self.assertIs(checker.check(value), False, value)
        for value in not_tuples() + [(), ("",), ("store", RING), ("check", RING), (None, None)]:
            self.assertIs(checker.check(value), False)

    def test_other_arguments(self):
        """A tuple with another first argument than a store, or names or tables where these are asked, is no claim."""
        claims = both_claims()
        for word, (good, _) in claims.items():
            for value in not_tuples() + [()]:
                if word not in ("table", "matching"):
                    self.assertIs(checker.check((word, value) + good[2:]), False, word)
        good = claims["turning"][0]
        self.assertIs(checker.check(good[:2] + (RING,) + good[3:]), False)
        good = claims["matching"][0]
        for value in not_tuples():
            self.assertIs(checker.check(("matching", value) + good[2:]), False)
            self.assertIs(checker.check(good[:2] + (value,) + good[3:]), False)

    def test_any_last_value(self):
        """The last argument may be any value, but for runs and tables, too."""
        for word, (good, _) in both_claims().items():
            for value in not_tuples():
                self.assertIs(checker.check(good[:-1] + (value,)), False, word)

    def test_run_and_table(self):
        self.assertIs(checker.check(("run", RING, ())), True)
        self.assertIs(checker.check(("run", RING, ("a",) * 10000)), True)
        self.assertIs(checker.check(("run", RING, ("a",) * 9999 + ("z",))), False)
        self.assertIs(checker.check(("run", RING, ["a"])), False)
        for value in ((), ((0,),), ring(200), ((1,),), ((0, 1),), [(0,)], ring(201)):
            self.assertIs(checker.check(("table", value)), value in (((0,),), ring(200)))

    def test_other_errors_pass(self):
        rates = {"a": (0, 0, 0), "b": (1, 1, 1)}
        for claim, kind, told in [
                (("marks", SEEN, "a", None), Refused, "seen"), (("marks", RING, "z", None), InvalidRun, 0),
                (("marks", ONEWAY, "a", None), Refused, "oneway"), (("ring", BITS, (), 0, ()), InvalidNumber, "islands"),
                (("ring", SEEN, ((0,),), 0, ()), Refused, "ends"), (("given", RING, 2, None), InvalidNumber, "office"),
                (("steady", RING, None, None), InvalidNumber, "office"), (("sheet", RING, {}, None), InvalidNumber, "rates"),
                (("unlike", SEEN, None), Refused, "seen"), (("unlike", ONEWAY, None), Refused, "oneway"),
                (("explained", BITS, 0, ((0,), (1,)), (("b",), ()), ()), InvalidRun, 0)]:
            self.assertEqual(list(vars(error_of(self, kind, checker.check, claim)).values()), [told])
            self.assertEqual(list(vars(error_of(self, kind, checker.concluded, RING, (("run", RING, ()), claim))).values()), [told])
        error_of(self, InvalidState, checker.check, ("ring", BITS, ((0,),), 4, ()))
        error_of(self, InvalidState, checker.check, ("explained", BITS, None, ((0,),), ((),), ()))
        self.assertIs(checker.check(("sheet", SEEN, rates, Sheet(1, rates, (0, 0, 0)))), False)


class CarriedTest(unittest.TestCase):

    def test_by_its_words(self):
        """What carries over holds, and is the claim itself where the store is the same."""
        rng = random.Random(1111)
        seen = {}
        for store in itertools.chain(many_stores(1112, 60, sizes=(1, 4)), whole_stores(1113, 40, size=8), all_sorts(1114, 40)):
            others = [more_of(rng, store), Store(store.size, store.offices), Store(store.size + 1, ((), ()))]
            others += [Store(store.size, store.offices + ((),)), Store(store.size, ((),) * len(store.offices))]
            pairs = [(store, other) for other in others] + [(other, store) for other in others]
            for first, other in pairs:
                for claim in claims_of(rng, first):
                    expected = carried_by_words(claim, other)
                    told = checker.carried_over(claim, other)
                    key = (claim[0], claim[2].__class__.__name__ if claim[0] in ("verdict", "reversal") else "",
                           expected is not None, first == other)
                    seen[key] = seen.get(key, 0) + 1
                    if expected is None or expected is claim:
                        self.assertIs(told, expected)
                        continue
                    self.assertEqual(told[:2], expected[:2])
                    self.assertIs(checker.check(told), True)
                    if claim[0] != "verdict":
                        self.assertEqual(told, expected)
                    elif isinstance(claim[2], Seen):
                        self.assertEqual((told[2].__class__, told[2].store, told[2].clash), (Seen, other, claim[2].clash))
                    else:
                        self.assertEqual((told[2].__class__, told[2].store), (Unseen, other))
        for word, kind in [("clash", ""), ("run", ""), ("undo", ""), ("verdict", "Seen"), ("verdict", "Unseen"), ("given", ""),
                           ("reversal", "Reversible"), ("reversal", "OneWay"), ("steady", "")]:
            self.assertTrue(all(seen.get((word, kind) + rest, 0) > 5 for rest in [(True, True), (True, False), (False, False)]),
                            (word, kind))
        for word in ("barred", "names", "sum"):
            self.assertTrue(seen[(word, "", True, True)] > 5 and seen[(word, "", False, False)] > 5)
            self.assertNotIn((word, "", True, False), seen)

    def test_other_words(self):
        """What has another first argument than a store, or tells of this store alone, is not carried over."""
        wider = Store(4, QUIET.offices + ((),))
        for word, (good, _) in both_claims().items():
            for store in (wider, Store(4, ((), ())), Store(9, ((), ()))):
                told = checker.carried_over(good, store)
                if word in ("matching", "table", "turning") or not isinstance(good[1], Store) or good[1].size != store.size:
                    self.assertIsNone(told, word)
            for value in not_tuples() + [()]:
                self.assertIsNone(checker.carried_over(good, value))
            if isinstance(good[1], Store):
                self.assertIs(checker.carried_over(claim=good, store=Store(good[1].size, good[1].offices)), good)
        for word in ("explained", "marks", "names", "ring"):
            good = both_claims()[word][0]
            self.assertIsNone(checker.carried_over(good, Store(4, good[1].offices + ((),))))
            self.assertIsNone(checker.carried_over(good, Store(4, ((), ()))))

    def test_offices_that_are_not_there(self):
        three = Store(4, QUIET.offices + ((),))
        for office, there in ((0, True), (1, True), (2, False)):
            steady = ("steady", three, office, steady_view(three, office))
            self.assertEqual(checker.carried_over(steady, QUIET), ("steady", QUIET) + steady[2:] if there else None)
            given = ("given", three, office, ("c", (0, 1, 2, 3), (0,) * 4))
            self.assertEqual(checker.carried_over(given, QUIET), ("given", QUIET) + given[2:] if there else None)


class GatherTest(unittest.TestCase):

    def test_gather(self):
        for store in itertools.chain(all_sorts(1121, 100), [Store(1, ((), ()))]):
            told = checker.gather(store)
            whole = is_unseen(store) and is_reversible(store)
            self.assertEqual([claim[:2] for claim in told], [(word, store) for word in ("verdict", "reversal", "sum")[:2 + whole]])
            self.assertTrue(all(checker.check(claim) is True for claim in told))
            self.assertIs(told[0][2].__class__, Unseen if is_unseen(store) else Seen)
            self.assertEqual(vars(told[0][2]), vars(court(store)))
            self.assertIs(told[1][2].__class__, Reversible if is_reversible(store) else OneWay)
            self.assertEqual(vars(told[1][2]), vars(reversal(store)))
            if whole:
                self.assertEqual(vars(told[2][2]), vars(sum_of(store)))
                self.assertIn(told[2][2].__class__, (Sum, Bent))
            words = {"unseen" if is_unseen(store) else "seen", "reversible" if is_reversible(store) else "oneway"}
            self.assertEqual(checker.concluded(store, told), tuple(sorted(words)))

    def test_concluded(self):
        rng = random.Random(1122)
        seen = set()
        for store in itertools.chain(many_stores(1123, 60, sizes=(1, 4)), whole_stores(1124, 40, size=8)):
            more = more_of(rng, store)
            for first, other in ((store, store), (store, more), (more, store)):
                claims = claims_of(rng, first)
                claims = rng.sample(claims, rng.randrange(len(claims) + 1)) + [("clash", other, ("a", "b", 0, "ends")), None, Odd()]
                words = set()
                for claim in claims:
                    if not checker.check(claim):
                        continue
                    told = checker.carried_over(claim, other)
                    if told is None:
                        continue
                    words |= {"clash": {"seen"}, "names": {"reversible", "unseen"}, "sum": {"reversible", "unseen"},
                              "verdict": {told[2].__class__.__name__.lower()},
                              "reversal": {told[2].__class__.__name__.lower()}}.get(told[0], set())
                kept = tuple(claims)
                self.assertEqual(checker.concluded(other, kept), tuple(sorted(words)))
                seen.add(tuple(sorted(words)))
        self.assertTrue({(), ("seen",), ("unseen",), ("reversible",), ("oneway",), ("oneway", "unseen"), ("reversible", "seen"),
                         ("reversible", "unseen")} <= seen, seen)

    def test_what_does_not_hold(self):
        claims = tuple(bad for _, bad in both_claims().values())
        for store in (RING, QUIET, SEEN, BITS):
            self.assertEqual(checker.concluded(store, claims), ())
        claims = tuple(good for good, _ in both_claims().values())
        self.assertEqual(checker.concluded(RING, claims), ("reversible", "unseen"))
        self.assertEqual(checker.concluded(SEEN, claims), ("seen",))
        self.assertEqual(checker.concluded(QUIET, claims), ("reversible", "unseen"))
        self.assertEqual(checker.concluded(store=BITS, claims=()), ())
        self.assertEqual(checker.concluded(QUIET, (("names", QUIET, names_of(QUIET)),)), ("reversible", "unseen"))
        self.assertIsInstance(names_of(QUIET), Names)


if __name__ == "__main__":
    unittest.main()
