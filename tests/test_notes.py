"""[66], [67], [68]: when the ends suffice, and what must be noted if they do not."""

import itertools
import random
import unittest

from sharedunseen import notes
from sharedunseen.cards import group_store, pack
from sharedunseen.errors import InvalidNumber, Refused
from sharedunseen.groups import check_table, is_commutative, matching
from sharedunseen.homes import joint_homes
from sharedunseen.merges import merged, outcomes, starts, starts_to
from sharedunseen.shared import Shared
from sharedunseen.stores import Store
from tests.sorts import all_sorts, is_reversible, is_smooth, other_answers, smooth_stores, whole_stores
from tests.support import Alike, Odd, Touchy, big_store, done, error_of, errors_in_order, not_numbers, not_tuples, refused
from tests.support import wrong_numbers, wrong_tuples
from tests.test_groups import both, quaternions, ring
from tests.test_homes import home_by_words, reach_by_words
from tests.test_merges import GOOD, ISLANDS, ROUGH, islands_of
from tests.test_orders import BOTH, ONEWAY
from tests.test_shared import runs_to
from tests.test_steady import views

BIT = Store(2, tuple(((name, (1, 0), (0, 0)),) for name in "abc"))
TWO = ((0,), (1, 2))
REFUSED = refused("ends", ROUGH, BOTH) + refused("oneway", ONEWAY)
MEASURES = [notes.island_measure, notes.ends_suffice, notes.torn, notes.least_notes, notes.count_notes, notes.count_ends]


def stores(seed, many, size=12):
    """Smooth reversible stores, unseen and seen ones."""
    rng = random.Random(seed)
    for offices in (2, 3, 4):
        for store in whole_stores(seed + offices, many, offices=offices, most=2, size=size):
            if store.size <= size:
                yield store if rng.randrange(2) else other_answers(rng, store)


def share_store(table, offices):
    """A store in which each office multiplies by each share."""
    rows = []
    for office in range(offices):
        row = [("abcdefgh"[office] + "abcdefgh"[k], tuple(line[k] for line in table), (0,) * len(table)) for k in range(1, len(table))]
        rows.append(tuple(row))
    return Store(len(table), tuple(rows))


class Known:
    """All that the words tell of a store and islands, by runs."""

    def __init__(self, store, lots):
        self.store = store
        self.lots = lots
        self.runs = [[runs_to(store, s, lot) for s in range(store.size)] for lot in lots]
        reach = [reach_by_words(store, lot) for lot in lots]
        homes = [[home_by_words(row, s) for s in range(store.size)] for row in reach]
        self.cores = [frozenset.intersection(*[frozenset(row[s]) for row in homes]) for s in range(store.size)]

    def result(self, state, ends):
        """What is put together, None if some island has no run."""
        run = ()
        for rows, end in zip(self.runs, ends):
            if end not in rows[state]:
                return None
            run += rows[state][end]
        return done(self.store, state, run)[0]

    def results(self, ends):
        found = {state: self.result(state, ends) for state in range(self.store.size)}
        return {state: end for state, end in found.items() if end is not None}

    def all_ends(self):
        return itertools.product(range(self.store.size), repeat=len(self.lots))

    def core_ends(self):
        """Ends that have starts: all copies in one state of each core tell of all others."""
        return [(min(core),) * len(self.lots) for core in set(self.cores)]

    def are_notes(self, value):
        """Whether states with one number that are starts of the same ends have one result."""
        for ends in self.all_ends():
            told = {}
            for state, end in self.results(ends).items():
                if told.setdefault(value[state], end) != end:
                    return False
        return True


def some_known(seed, many, most=700, size=12):
    rng = random.Random(seed)
    for store in stores(seed + 1, many, size):
        passed, lots = islands_of(rng, store)
        if store.size ** len(lots) <= most:
            yield passed, Known(store, lots)


class MeasureTest(unittest.TestCase):

    def test_all_ends_tried(self):
        seen = {}
        for passed, known in some_known(1031, 40):
            store, lots = known.store, known.lots
            cores, n, m = notes.island_measure(store, islands=passed)
            self.assertEqual(len(set(known.cores)), cores)
            self.assertEqual({len(core) for core in known.cores}, {n})
            all_ends = set()
            for ends in known.all_ends():
                results = known.results(ends)
                self.assertEqual(starts(store, ends, islands=passed), tuple(sorted(results)))
                if results:
                    all_ends.add(ends)
                    self.assertEqual(frozenset(results), known.cores[min(results)])
                    told = outcomes(store, ends, islands=passed)
                    self.assertEqual(told, tuple(sorted(set(results.values()))))
                    self.assertEqual(len(told), m)
                    for goal in told:
                        self.assertEqual(len(starts_to(store, ends, goal, islands=passed)) * m, n)
                elif len(lots) == 2:
                    self.assertLess(len(lots[0] + lots[1]), len(store.offices))
            self.assertEqual(notes.count_ends(store, islands=passed), len(all_ends))
            self.assertIs(notes.ends_suffice(store, islands=passed), m == 1)
            key = (len(lots), n, m)
            seen[key] = seen.get(key, 0) + 1
        self.assertTrue({(1, 2, 1), (2, 1, 1), (2, 2, 2), (2, 4, 4), (3, 2, 1), (3, 3, 3), (3, 1, 1)} <= set(seen), seen)

    def test_shares(self):
        """m is n divided by the number of shares for which the product of one less than islands is 0."""
        seen = set()
        rng = random.Random(1033)
        whole = [share_store(table, offices) for table in (ring(2), ring(4), both(ring(2), ring(2)), ring(6)) for offices in (2, 3, 4)]
        for store in list(stores(1034, 60, 24)) + whole * 4:
            passed, lots = islands_of(rng, store)
            cores, n, m = notes.island_measure(store, islands=passed)
            if len(lots) == 1:
                self.assertEqual(m, 1)
                continue
            table = notes.merge_table(store, islands=passed).table
            nought = 0
            for share in range(n):
                product = 0
                for _ in range(len(lots) - 1):
                    product = table[product][share]
                nought += product == 0
            self.assertEqual(m * nought, n)
            self.assertIs(notes.ends_suffice(store, islands=passed), nought == n)
            seen.add((len(lots), n, m))
        self.assertTrue({(2, 6, 6), (3, 4, 2), (3, 4, 1), (4, 3, 1), (4, 2, 2), (4, 4, 4)} <= seen, seen)

    def test_bits_and_threes(self):
        """Two islands need cores of one state, but three may share a bit, and four a group of three shares."""
        for islands, bit in ((2, False), (3, True), (4, False), (5, True)):
            store = Store(2, tuple(((name, (1, 0), (0, 0)),) for name in "abcde"[:islands]))
            self.assertIs(notes.ends_suffice(store), bit)
        for islands, three in ((2, False), (3, False), (4, True), (7, True), (8, False)):
            store = Store(3, tuple(((name, (1, 2, 0), (0, 0, 0)),) for name in "abcdefgh"[:islands]))
            self.assertIs(notes.ends_suffice(store), three)


class MergeTableTest(unittest.TestCase):

    def test_to_put_together_is_to_multiply(self):
        rng = random.Random(1041)
        seen = set()
        cards = [pack(3), group_store(quaternions(), (2, 4), (2, 4)), group_store(quaternions(), (2,), (2, 4))]
        for store in itertools.chain(stores(1042, 40, 16), cards):
            passed, lots = islands_of(rng, store)
            if len(lots) == 1:
                continue
            known = Known(store, lots)
            tables = []
            for base in range(store.size):
                group = notes.merge_table(store, islands=passed, base=base)
                self.assertIs(group.__class__, Shared)
                self.assertEqual(group.shares, (base,) + tuple(sorted(known.cores[base] - {base})))
                for i, j in itertools.product(range(len(group.shares)), repeat=2):
                    ends = (group.shares[i], group.shares[j]) + (base,) * (len(lots) - 2)
                    self.assertEqual(group.shares[group.table[i][j]], known.result(base, ends))
                factors = [rng.randrange(len(group.shares)) for _ in lots]
                product = 0
                for factor in factors:
                    product = group.table[product][factor]
                end = merged(store, base, tuple(group.shares[k] for k in factors), islands=passed)
                self.assertEqual(end, group.shares[product])
                tables.append(group.table)
            self.assertIsNone(check_table(tables[0]))
            self.assertTrue(all(matching(tables[0], table) is not None for table in tables))
            if len(lots) > 2:
                self.assertTrue(is_commutative(tables[0]))
                for pair in itertools.permutations(range(len(lots)), 2):
                    rest = tuple(lots[k] for k in range(len(lots)) if k not in pair)
                    turned = (lots[pair[0]], lots[pair[1]]) + rest
                    self.assertEqual(notes.merge_table(store, islands=turned).table, tables[0])
            self.assertEqual(notes.merge_table(store, islands=passed).table, tables[0])
            seen.add((len(lots), len(tables[0]), is_commutative(tables[0])))
        self.assertTrue({(2, 1, True), (2, 4, True), (2, 6, False), (2, 8, False), (3, 2, True), (3, 3, True)} <= seen, seen)

    def test_errors(self):
        errors_in_order(self, notes.merge_table, {"store": GOOD, "islands": TWO, "base": 2}, [
            ("islands", ISLANDS), ("base", wrong_numbers("base", 3)), ("store", REFUSED),
            ("islands", refused("islands", ((0,),), ((0, 1, 2),), ((1, 2),)))])

    def test_edges(self):
        one = Store(1, ((), ()))
        group = notes.merge_table(store=one)
        self.assertEqual((group.table, group.shares), (((0,),), (0,)))
        self.assertEqual(error_of(self, Refused, notes.merge_table, one, islands=((0, 1),)).word, "islands")
        turn = tuple((s + 1) % 200 for s in range(200))
        wide = Store(200, tuple(((name, turn, (0,) * 200),) for name in "abcdefgh"))
        group = notes.merge_table(wide, islands=None, base=7)
        self.assertEqual((len(group.table), group.shares[:4]), (200, (7, 0, 1, 2)))
        self.assertEqual(group.shares[group.table[3][4]], 2 + 3 - 7 + 200)


class TornTest(unittest.TestCase):

    def is_torn(self, known, value):
        ends, one, other = value
        results = known.results(ends)
        return one in results and other in results and results[one] != results[other]

    def test_torn(self):
        verdicts = [0, 0]
        for passed, known in some_known(1051, 40):
            told = notes.torn(known.store, islands=passed)
            self.assertIs(told is None, notes.island_measure(known.store, islands=passed)[2] == 1)
            verdicts[told is None] += 1
            if told is not None:
                self.assertIsInstance(told, tuple)
                self.assertIsInstance(told[0], tuple)
                self.assertTrue(self.is_torn(known, told))
                self.assertIs(notes.check_torn(known.store, told, islands=passed), True)
        self.assertGreater(min(verdicts), 20)

    def test_one_part_changed(self):
        """Also in stores that are not reversible, and in none that is not smooth."""
        rng = random.Random(1053)
        verdicts = [0, 0]
        for store in itertools.chain(smooth_stores(1054, 80), stores(1055, 10, 8), all_sorts(1056, 40)):
            passed, lots = islands_of(rng, store)
            known = Known(store, lots)
            smooth = is_smooth(store)
            ends = tuple(rng.randrange(store.size) for _ in lots) if rng.randrange(3) else (rng.randrange(store.size),) * len(lots)
            for one, other in itertools.product(range(store.size), repeat=2):
                good = smooth and self.is_torn(known, (ends, one, other))
                self.assertIs(notes.check_torn(store, (ends, one, other), islands=passed), good)
                verdicts[good] += 1
            verdicts[0] += not is_reversible(store)
        self.assertGreater(min(verdicts), 50)

    def test_any_value(self):
        good = ((0, 0), 0, 1)
        self.assertIs(notes.check_torn(store=BIT, value=good, islands=TWO), True)
        wrong = not_tuples() + [(), good[:2], good + (0,), list(good), ((0, 0), 0, 0), ((0, 0, 0), 0, 1), ((0,), 0, 1), ([0, 0], 0, 1)]
        wrong += [(value, 0, 1) for value in not_tuples() + [(0, 2), (0, True), (None, 0), (Odd(), 0), (0, Touchy())]]
        wrong += [((0, 0), value, 1) for value in not_numbers() + [2, 10 ** 20]]
        wrong += [((0, 0), 0, value) for value in not_numbers() + [2, 10 ** 20]]
        for value in wrong:
            self.assertIs(notes.check_torn(BIT, value, islands=TWO), False)
        self.assertIs(notes.check_torn(BIT, ((0, 0, 0), 0, 1)), False)
        for store in (BIT, GOOD, ROUGH, ONEWAY, BOTH):
            for value, told in ISLANDS:
                self.assertEqual(error_of(self, InvalidNumber, notes.check_torn, store, good, islands=value).word, told[1])
        self.assertIs(notes.check_torn(ROUGH, ((0, 0, 0), 0, 1)), False)


class NotesTest(unittest.TestCase):

    def test_all_views_tried(self):
        seen = {}
        for passed, known in some_known(1061, 40, 70, 6):
            store = known.store
            if store.size > 6:
                continue
            _, n, m = notes.island_measure(store, islands=passed)
            fitting = []
            for view in views(store.size):
                good = known.are_notes(view)
                self.assertIs(notes.are_notes(store, view, islands=passed), good)
                if good:
                    fitting.append(view)
            least = [view for view in fitting if max(view) + 1 == m]
            self.assertEqual(min(max(view) + 1 for view in fitting), m)
            self.assertEqual(notes.count_notes(store, islands=passed), len(least))
            self.assertIn(notes.least_notes(store, islands=passed), least)
            seen[(n, m)] = max(len(least), seen.get((n, m), 0))
        self.assertTrue({(1, 1), (2, 1), (2, 2), (3, 3)} <= set(seen), seen)
        self.assertGreater(seen[(2, 2)], 1)

    def test_any_numbers(self):
        rng = random.Random(1063)
        verdicts = [0, 0]
        for passed, known in some_known(1064, 40):
            store = known.store
            for _ in range(4):
                value = tuple(rng.choice((0, 1, 7, 10 ** 30)) for _ in range(store.size))
                good = known.are_notes(value)
                self.assertIs(notes.are_notes(store, value, islands=passed), good)
                verdicts[good] += 1
            told = notes.least_notes(store, islands=passed)
            self.assertTrue(known.are_notes(told))
            self.assertEqual(max(told) + 1, notes.island_measure(store, islands=passed)[2])
        self.assertGreater(min(verdicts), 30)

    def test_merged_by_note(self):
        rng = random.Random(1065)
        verdicts = [0, 0]
        for passed, known in some_known(1066, 40, 10 ** 6):
            store = known.store
            told = notes.least_notes(store, islands=passed)
            names = rng.sample(range(10 ** 6), max(told) + 1)
            value = tuple(names[note] for note in told)
            for _ in range(3):
                state = rng.randrange(store.size)
                ends = tuple(rng.choice(sorted(rows[state])) for rows in known.runs)
                self.assertEqual(notes.merged_by_note(store, value, value[state], ends, islands=passed), known.result(state, ends))
                ends, note = tuple(rng.randrange(store.size) for _ in ends), rng.choice(names + [10 ** 40])
                results = {end for s, end in known.results(ends).items() if value[s] == note}
                verdicts[bool(results)] += 1
                if results:
                    self.assertEqual({notes.merged_by_note(store, value, note, ends, islands=passed)}, results)
                else:
                    self.assertEqual(error_of(self, Refused, notes.merged_by_note, store, value, note, ends, islands=passed).word,
                                     "start")
        self.assertGreater(min(verdicts), 30)

    def test_any_value(self):
        self.assertIs(notes.are_notes(store=BIT, value=(0, 1), islands=TWO), True)
        self.assertIs(notes.are_notes(BIT, (0, 0), islands=TWO), False)
        self.assertIs(notes.are_notes(BIT, (0, 0)), True)
        wrong = not_tuples() + [(), (0,), (0, 1, 2), [0, 1]] + [(0, item) for item in not_numbers()] + [(item, 0) for item in not_numbers()]
        for value in wrong:
            self.assertIs(notes.are_notes(BIT, value), False)
        errors_in_order(self, notes.are_notes, {"store": GOOD, "value": None, "islands": None}, [
            ("islands", ISLANDS), ("store", REFUSED)])

    def test_errors(self):
        for call in MEASURES:
            errors_in_order(self, call, {"store": GOOD, "islands": None}, [("islands", ISLANDS), ("store", REFUSED)])
        wrong = [(value, ("Refused", "notes")) for value in not_tuples() + [(), (0, 1), (0, 0, 1), (0, 1, True), (0, 1, None), [0, 1, 2]]]
        good = {"store": GOOD, "notes": (5, 7, 6), "note": 7, "ends": (1, 1), "islands": ((0,), (1,))}
        ends = wrong_tuples((), (0,), (0, 1, 2), (0, 3), (-1, 0), (0, True), (None, 0), (Odd(), 0), [0, 1])
        errors_in_order(self, notes.merged_by_note, good, [
            ("islands", [(value, told) for value, told in ISLANDS if value is not None]), ("note", wrong_numbers("note")),
            ("ends", ends), ("store", REFUSED), ("notes", wrong), ("note", refused("start", 0, 8, 10 ** 30))])
        for store in all_sorts(1067, 80):
            if not is_smooth(store) or not is_reversible(store):
                for call in MEASURES:
                    self.assertEqual(error_of(self, Refused, call, store).word, "oneway" if is_smooth(store) else "ends")

    def test_edges(self):
        one = Store(1, ((), ()))
        self.assertEqual((notes.island_measure(store=one), notes.ends_suffice(store=one), notes.torn(store=one)), ((1, 1, 1), True, None))
        self.assertEqual((notes.least_notes(one), notes.count_notes(one), notes.count_ends(one)), ((0,), 1, 1))
        self.assertEqual(notes.merged_by_note(store=one, notes=(3,), note=3, ends=(0, 0), islands=None), 0)
        turn = tuple((s + 1) % 200 for s in range(200))
        wide = Store(200, tuple(((name, turn, (0,) * 200),) for name in "abcdefgh"))
        self.assertEqual(notes.island_measure(wide), (1, 200, 200))
        self.assertEqual((notes.count_ends(wide), notes.count_notes(wide)), (200 ** 8, 1))
        self.assertEqual(notes.least_notes(wide), tuple(range(200)))
        self.assertEqual(notes.merged_by_note(wide, tuple(range(200)), 5, (6,) * 8), 13)
        quiet = big_store()
        self.assertEqual(notes.island_measure(quiet), (8, 25, 25))
        many = 1
        for factor in range(1, 26):
            many *= factor
        self.assertEqual(notes.count_notes(quiet), many ** 7)
        self.assertEqual(notes.count_ends(quiet), 8 * 200 ** 4 * 100 ** 2 * 50 * 25)
        self.assertTrue(notes.are_notes(quiet, tuple(s // 8 for s in range(200))))


if __name__ == "__main__":
    unittest.main()
