"""[95], [96]: sheets, which tell all bills by list prices and worths."""

import fractions
import itertools
import math
import random
import unittest

from sharedunseen import sheets
from sharedunseen.bills import bill
from sharedunseen.errors import InvalidNumber, Refused
from sharedunseen.homes import joint_homes
from sharedunseen.sheets import Sheet, Uneven
from sharedunseen.stores import Store
from sharedunseen.sums import sum_of
from tests.sorts import all_sorts, is_reversible, is_unseen, random_run, whole_stores
from tests.support import Alike, Odd, Touchy, big_store, error_of, errors_in_order, not_names, not_numbers, not_tuples, refused
from tests.support import wrong_runs, wrong_states
from tests.test_bills import MOST, bill_by_words, random_rates
from tests.test_shared import BOTH, ONEWAY, SEEN, others_of

BITS = Store(4, ((("a", (1, 0, 3, 2), (0,) * 4),), (("b", (2, 3, 0, 1), (0,) * 4), ("c", (0, 1, 2, 3), (0,) * 4))))
RATES = {"a": (1, 2, 1, 2), "b": (0, 0, -5, -5), "c": (MOST, MOST, -MOST, -MOST)}


def part_lists(store):
    return [joint_homes(store, tuple(others_of(store, office))) for office in range(len(store.offices))]


def homomorphisms(table, many):
    """All ways to give each share a number below `many` so that products have the sums."""
    size = len(table)
    found = []
    for row in itertools.product(range(many), repeat=size - 1):
        row = (0,) + row
        if all(row[table[i][j]] == (row[i] + row[j]) % many for i in range(size) for j in range(size)):
            found.append(row)
    return found


def even_rates(rng, store, most=5):
    """Rates of some list prices and worths, with fractions in these where shares let them be."""
    views = part_lists(store)
    told = sum_of(store)
    many = rng.choice((1, 2, 2, 3, 4)) if hasattr(told, "table") and len(told.table) < 7 else 1
    worth = [many * rng.randrange(-most, most + 1) for _ in range(store.size)]
    if many > 1:
        weights = rng.choice(homomorphisms(told.table, many))
        worth = [total + weights[share] for total, share in zip(worth, told.shares)]
    rates = {}
    for office, row in enumerate(store.offices):
        for name, ends, _ in row:
            prices = []
            for part in range(max(views[office]) + 1):
                least = views[office].index(part)
                prices.append(many * rng.randrange(-most, most + 1) + worth[least] - worth[ends[least]])
            rates[name] = [prices[views[office][s]] + worth[end] - worth[s] for s, end in enumerate(ends)]
    if all(rate % many == 0 for row in rates.values() for rate in row):
        rates = {name: [rate // many for rate in row] for name, row in rates.items()}
    return {name: tuple(row) for name, row in rates.items()}


def turning_rates(rng, store):
    """Rates that are even since each operation costs what it costs by the other operations' places: 0 or 1 in rounds."""
    rates = even_rates(rng, store)
    found = {}
    for name, row in rates.items():
        found[name] = tuple(rate + rng.randrange(2) for rate in row)
    return found


def zero_states(store):
    """The states whose worth is 0, by the words of [95]."""
    views = part_lists(store)
    found = []
    for state in range(store.size):
        parts = [view[state] for view in views]
        first = all([view[s] for view in views] != parts for s in range(state))
        if first and len([k for k, view in enumerate(views) if view[state] != view[0]]) <= 1:
            found.append(state)
    return found


def solved(rows, many):
    """The only solution of equations with so many unknowns, None if there is none."""
    rows = [[fractions.Fraction(x) for x in row] for row in rows]
    done = []
    for column in range(many):
        place = next((k for k, row in enumerate(rows) if row[column] != 0), None)
        if place is None:
            raise AssertionError("several solutions")
        lead = rows.pop(place)
        lead = [x / lead[column] for x in lead]
        rows = [[x - row[column] * y for x, y in zip(row, lead)] if row[column] else row for row in rows]
        done = [[x - row[column] * y for x, y in zip(row, lead)] if row[column] else row for row in done]
        done.append(lead)
    return None if any(row[-1] for row in rows) else [row[-1] for row in done]


def sheet_by_words(store, rates):
    """The scale, lists and worth that the equations and the zeros leave, None if there are none."""
    views = part_lists(store)
    unknowns = {("worth", state): state for state in range(store.size)}
    for office, row in enumerate(store.offices):
        for name, _, _ in row:
            for part in range(max(views[office]) + 1):
                unknowns[(name, part)] = len(unknowns)
    rows = []
    for state in zero_states(store):
        rows.append([int(k == state) for k in range(len(unknowns) + 1)])
        rows[-1][-1] = 0
    for office, row in enumerate(store.offices):
        for name, ends, _ in row:
            for state, end in enumerate(ends):
                line = [0] * (len(unknowns) + 1)
                line[unknowns[(name, views[office][state])]] += 1
                line[unknowns[("worth", end)]] += 1
                line[unknowns[("worth", state)]] -= 1
                line[-1] = rates[name][state]
                rows.append(line)
    unique = [list(row) for row in {tuple(row) for row in rows}]
    found = solved(unique, len(unknowns))
    if found is None:
        return None
    scale = math.lcm(*[x.denominator for x in found])
    whole = [int(x * scale) for x in found]
    lists = {}
    for (name, _), place in unknowns.items():
        if name != "worth":
            lists[name] = lists.get(name, ()) + (whole[place],)
    return scale, lists, tuple(whole[:store.size])


def uneven_by_words(store, rates):
    for low, high in itertools.combinations(range(len(store.offices)), 2):
        for (one, _, _), (other, _, _) in itertools.product(store.offices[low], store.offices[high]):
            for state in range(store.size):
                if bill_by_words(store, rates, state, (one, other)) != bill_by_words(store, rates, state, (other, one)):
                    return (one, other, state)
    return None


def some_rates(rng, store):
    return rng.choice((even_rates, even_rates, turning_rates, random_rates))(rng, store)


def stores(seed, many):
    yield from whole_stores(seed, many, size=16)
    yield from whole_stores(seed + 1, many // 2, offices=3, size=12)
    yield from whole_stores(seed + 2, many // 4, offices=4, most=2, size=16)


class SheetOfTest(unittest.TestCase):

    def test_all_equations_solved(self):
        rng = random.Random(941)
        scales = {}
        for store in stores(942, 100):
            for _ in range(2):
                rates = some_rates(rng, store)
                kept = dict(rates)
                told = sheets.sheet_of(store, rates)
                uneven = uneven_by_words(store, rates)
                expected = sheet_by_words(store, rates)
                self.assertIs(expected is None, uneven is not None)
                if uneven is None:
                    self.assertIs(told.__class__, Sheet)
                    self.assertEqual((told.scale, told.lists, told.worth), expected)
                    self.assertIs(sheets.check_sheet(store, rates, told), True)
                    self.assertEqual(sheets.rates_of(store, told), rates)
                    scales[told.scale] = scales.get(told.scale, 0) + 1
                else:
                    self.assertIs(told.__class__, Uneven)
                    self.assertEqual((told.one, told.other, told.state), uneven)
                    self.assertIs(sheets.check_sheet(store, rates, told), True)
                    scales[0] = scales.get(0, 0) + 1
                self.assertEqual(rates, kept)
        self.assertTrue(all(scales.get(scale, 0) > 2 for scale in (0, 1, 2)), scales)

    def test_great_scales(self):
        """Offices that turn one round, with rates that are dear in one state of it."""
        scales = []
        for size, other in ((4, 2), (6, 4), (12, 1), (9, 3), (9, 2)):
            one = ("a", tuple((s + 1) % size for s in range(size)), (0,) * size)
            two = ("b", tuple((s + other) % size for s in range(size)), (0,) * size)
            store = Store(size, ((one,), (two,)))
            first = (1,) + (0,) * (size - 1)
            rates = {"a": first, "b": tuple(sum(first[(s + k) % size] for k in range(other)) for s in range(size))}
            told = sheets.sheet_of(store, rates)
            self.assertEqual((told.scale, told.lists, told.worth), sheet_by_words(store, rates))
            scales.append(told.scale)
        self.assertEqual(scales, [2, 3, 12, 3, 9])

    def test_divided(self):
        """If a run of an office leads state 0 to x, and y with its own part to z, worths add up but for the scale."""
        rng = random.Random(943)
        unlike = 0
        for store in stores(944, 60):
            told = sheets.sheet_of(store, even_rates(rng, store))
            views = part_lists(store)
            for office in range(len(store.offices)):
                pairs = {(0, state) for state in range(store.size) if views[office][state] == views[office][0]}
                todo = sorted(pairs)
                for zero, state in todo:
                    todo_pairs, seen = [(zero, state)], {(zero, state)}
                    while todo_pairs:
                        x, z = todo_pairs.pop()
                        rest = told.worth[z] - told.worth[state] - told.worth[x]
                        self.assertEqual(rest % told.scale, 0)
                        unlike += rest != 0
                        for _, ends, _ in store.offices[office]:
                            if (ends[x], ends[z]) not in seen:
                                seen.add((ends[x], ends[z]))
                                todo_pairs.append((ends[x], ends[z]))
        self.assertGreater(unlike, 50)

    def test_errors(self):
        wrong = [(value, ("InvalidNumber", "rates")) for value in
                 [None, (), [], {}, Odd(), Alike(), Touchy(), {"a": (0,)}, {"a": (0, 0), "b": (0, True), "c": (0, 0)}]]
        for store in (SEEN, BOTH):
            rates = {name: (0, 0) for name in store.names()}
            self.assertEqual(error_of(self, Refused, sheets.sheet_of, store, rates).word, "seen")
        self.assertEqual(error_of(self, Refused, sheets.sheet_of, ONEWAY, {"a": (0, 0)}).word, "oneway")
        for value, told in wrong:
            for store in (SEEN, ONEWAY, BOTH, BITS):
                for call, more in ((sheets.sheet_of, ()), (sheets.check_sheet, (None,))):
                    self.assertEqual(error_of(self, InvalidNumber, call, store, value, *more).word, "rates")
        for store in all_sorts(945, 100):
            if not is_unseen(store) or not is_reversible(store):
                rates = {name: (0,) * store.size for name in store.names()}
                word = error_of(self, Refused, sheets.sheet_of, store, rates).word
                self.assertEqual(word, "oneway" if is_unseen(store) else "seen")

    def test_edges(self):
        one = sheets.sheet_of(Store(1, ((("a", (0,), (0,)),), ())), {"a": (-7,)})
        self.assertEqual((one.scale, one.lists, one.worth), (1, {"a": (-7,)}, (0,)))
        none = sheets.sheet_of(store=Store(1, ((), ())), rates={})
        self.assertEqual((none.scale, none.lists, none.worth), (1, {}, (0,)))
        told = sheets.sheet_of(BITS, RATES)
        self.assertEqual((told.scale, told.lists, told.worth), (1, {"a": (1, 2), "b": (0, -5), "c": (MOST, -MOST)}, (0,) * 4))
        quiet = Store(200, tuple(tuple((n, e, (0,) * 200) for n, e, _ in row) for row in big_store().offices))
        steps = {name: ends[0] for row in quiet.offices for name, ends, _ in row}
        first = [MOST] + [0] * 199
        rates = {name: tuple(sum(first[(s + k) % 200] for k in range(step)) for s in range(200)) for name, step in steps.items()}
        told = sheets.sheet_of(quiet, rates)
        self.assertEqual(told.scale, 1)
        self.assertEqual(told.lists, {name: (MOST // 200 * step,) for name, step in steps.items()})
        self.assertEqual(sheets.rates_of(quiet, told), rates)
        rates["zaa"] = (MOST,) + rates["zaa"][1:199] + (1,)
        told = sheets.sheet_of(quiet, rates)
        self.assertEqual((told.one, told.other, told.state), uneven_by_words(quiet, rates))


class CheckSheetTest(unittest.TestCase):

    def are_equal(self, store, rates, scale, lists, worth):
        views = part_lists(store)
        return all(scale * rates[name][s] == lists[name][views[office][s]] + worth[end] - worth[s]
                   for office, row in enumerate(store.offices) for name, ends, _ in row for s, end in enumerate(ends))

    def test_one_part_changed(self):
        rng = random.Random(951)
        verdicts = [0, 0]
        for store in stores(952, 30):
            rates = even_rates(rng, store)
            told = sheets.sheet_of(store, rates)
            parts = {"scale": told.scale, "lists": told.lists, "worth": told.worth}
            changed = [{**parts, "scale": scale} for scale in (1, 2, 3, 6)]
            changed.append({"scale": 2 * told.scale, "worth": tuple(2 * w + 7 for w in told.worth),
                            "lists": {name: tuple(2 * p for p in row) for name, row in reversed(told.lists.items())}})
            for state in range(store.size):
                changed.append({**parts, "worth": told.worth[:state] + (told.worth[state] + 1,) + told.worth[state + 1:]})
            for name, row in told.lists.items():
                for at in range(len(row)):
                    changed.append({**parts, "lists": {**told.lists, name: row[:at] + (row[at] - 1,) + row[at + 1:]}})
            for value in changed:
                good = self.are_equal(store, rates, **value)
                self.assertIs(sheets.check_sheet(store, rates, Sheet(**value)), good)
                verdicts[good] += 1
        self.assertGreater(min(verdicts), 40)

    def test_kinds(self):
        told = sheets.sheet_of(BITS, RATES)
        parts = {"scale": 1, "lists": told.lists, "worth": told.worth}
        self.assertIs(sheets.check_sheet(store=BITS, rates=RATES, value=Sheet(**parts)), True)
        self.assertIs(sheets.check_sheet(BITS, RATES, Sheet(1, dict(reversed(told.lists.items())), told.worth)), True)
        wrong = [{**parts, "scale": value} for value in not_numbers() + [0, -1, 2]]
        wrong += [{**parts, "worth": value} for value in not_tuples() + [(), (0,) * 3, (0,) * 5, [0] * 4]]
        items = not_numbers()
        items = [item for item in items if not isinstance(item, int) or isinstance(item, bool)]
        wrong += [{**parts, "worth": (0, item, 0, 0)} for item in items]
        wrong += [{**parts, "lists": value} for value in not_tuples() + [(), ("a", "b", "c")]]
        for name, row in told.lists.items():
            rows = not_tuples() + [(), row[:-1], row + (0,), list(row)] + [row[:-1] + (item,) for item in items]
            wrong += [{**parts, "lists": {**told.lists, name: value}} for value in rows]
            wrong.append({**parts, "lists": {key: value for key, value in told.lists.items() if key != name}})
            wrong.append({**parts, "lists": {(key if key != name else Alike(key)): told.lists[key] for key in told.lists}})
        wrong.append({**parts, "lists": {**told.lists, "d": (0, 0)}})
        for value in wrong:
            self.assertIs(sheets.check_sheet(BITS, RATES, Sheet(**value)), False)
        for value in not_tuples() + [RATES, told.lists, Uneven("a", "b", 0), (1, told.lists, told.worth)]:
            self.assertIs(sheets.check_sheet(BITS, RATES, value), False)

    def test_scales_from_one_on(self):
        """With a scale of 0 or below it no value is a sheet, although the equations hold."""
        zeros = {name: (0, 0) for name in RATES}
        for scale in (0, -1, -7):
            lists = {name: tuple(scale * price for price in row) for name, row in sheets.sheet_of(BITS, RATES).lists.items()}
            self.assertIs(sheets.check_sheet(BITS, RATES, Sheet(scale, lists, (5,) * 4)), False)
        self.assertIs(sheets.check_sheet(BITS, {name: (0,) * 4 for name in RATES}, Sheet(0, zeros, (0,) * 4)), False)
        self.assertIs(sheets.check_sheet(BITS, {name: (0,) * 4 for name in RATES}, Sheet(3, zeros, (0,) * 4)), True)

    def test_uneven(self):
        rng = random.Random(953)
        verdicts = [0, 0]
        for store in stores(954, 30):
            rates = turning_rates(rng, store)
            for one, other, state in itertools.product(store.names(), store.names(), range(store.size)):
                good = store.office_of(one) < store.office_of(other) and bill_by_words(store, rates, state, (one, other)) != \
                    bill_by_words(store, rates, state, (other, one))
                self.assertIs(sheets.check_sheet(store, rates, Uneven(one, other, state)), good)
                verdicts[good] += 1
        self.assertGreater(min(verdicts), 50)
        rates = {**RATES, "a": (0, 0, 1, 0)}
        self.assertIs(sheets.check_sheet(BITS, rates, Uneven("a", "b", 0)), True)
        wrong = [(value, "b", 0) for value in not_names() + ["zzz", "c"]] + [("a", value, 0) for value in not_names() + ["zzz", "c"]]
        wrong += [("a", "b", value) for value in not_numbers() + [4, 10 ** 20]] + [("b", "a", 0), ("a", "a", 0)]
        for value in wrong:
            self.assertIs(sheets.check_sheet(BITS, rates, Uneven(*value)), False)

    def test_other_stores(self):
        """No value is a sheet of a store that is seen, or has one way only."""
        for store in (SEEN, ONEWAY, BOTH):
            rates = {name: (0, 0) for name in store.names()}
            for value in (Sheet(1, {name: (0,) for name in rates}, (0, 0)), Sheet(1, rates, (0, 0)), Uneven("a", "b", 0), None):
                self.assertIs(sheets.check_sheet(store, rates, value), False)


class RatesOfTest(unittest.TestCase):

    def test_equations(self):
        rng = random.Random(961)
        verdicts = [0, 0]
        for store in stores(962, 60):
            views = part_lists(store)
            scale, most = rng.choice((1, 2, 3)), rng.choice((1, 10 ** 30))
            worth = tuple(rng.randrange(-most, most + 1) for _ in range(store.size))
            lists = {name: tuple(rng.randrange(-most, most + 1) for _ in range(max(views[k]) + 1))
                     for k, row in enumerate(store.offices) for name, _, _ in row}
            sheet = Sheet(scale, lists, worth)
            expected = {name: [lists[name][views[k][s]] + worth[end] - worth[s] for s, end in enumerate(ends)]
                        for k, row in enumerate(store.offices) for name, ends, _ in row}
            whole = all(x % scale == 0 for row in expected.values() for x in row)
            verdicts[whole] += 1
            if whole:
                expected = {name: tuple(x // scale for x in row) for name, row in expected.items()}
                self.assertEqual(sheets.rates_of(store, sheet), expected)
            else:
                self.assertEqual(error_of(self, Refused, sheets.rates_of, store, sheet).word, "scale")
            state, run = rng.randrange(store.size), random_run(rng, store, 8)
            own = sheets.own_bills(store, sheet, state, run)
            totals = [0] * len(store.offices)
            here = state
            for name in run:
                office = store.office_of(name)
                totals[office] += lists[name][views[office][here]]
                here = store.operation(name)[1][here]
            self.assertEqual(own, tuple(totals))
            if whole:
                self.assertEqual(sum(own) + worth[here] - worth[state], scale * bill_by_words(store, expected, state, run))
            office = rng.randrange(len(store.offices))
            alone = tuple(name for name in run if store.office_of(name) == office)
            other = rng.choice([s for s in range(store.size) if views[office][s] == views[office][state]])
            self.assertEqual(sheets.own_bills(store, sheet, other, alone)[office], own[office])
        self.assertGreater(min(verdicts), 20)

    def test_errors(self):
        sheet = sheets.sheet_of(BITS, RATES)
        self.assertEqual(sheets.rates_of(store=BITS, sheet=sheet), RATES)
        errors_in_order(self, sheets.own_bills, {"store": BITS, "sheet": sheet, "state": 3, "run": ("a", "b")}, [
            ("state", wrong_states(4)), ("run", wrong_runs("b", "d"))])
        for store, word in ((SEEN, "seen"), (ONEWAY, "oneway"), (BOTH, "seen")):
            other = Sheet(1, {name: (0, 0) for name in store.names()}, (0, 0))
            self.assertEqual(error_of(self, Refused, sheets.rates_of, store, other).word, word)
            errors_in_order(self, sheets.own_bills, {"store": BITS, "sheet": sheet, "state": 0, "run": ()}, [
                ("state", wrong_states(4)), ("run", wrong_runs("a", "d")), ("store", refused(word, store))])

    def test_edges(self):
        one = Store(1, ((), ()))
        self.assertEqual(sheets.rates_of(one, Sheet(5, {}, (3,))), {})
        self.assertEqual(sheets.own_bills(one, Sheet(5, {}, (3,)), 0, ()), (0, 0))
        sheet = sheets.sheet_of(BITS, RATES)
        run = ("a", "b", "c", "b") * 2500
        own = sheets.own_bills(BITS, sheet, 0, run)
        self.assertEqual(own, (2500 // 2 * 3, 2500 * (-MOST - 5)))
        self.assertEqual(sum(own), bill(BITS, RATES, 0, run))

    def test_later_changes(self):
        lists = {"a": (1, 2), "b": (0, -5), "c": (MOST, -MOST)}
        sheet = Sheet(1, lists, (0,) * 4)
        lists["a"] = (7, 7)
        self.assertEqual(sheets.rates_of(BITS, sheet), RATES)
        told = sheets.rates_of(BITS, sheet)
        told.clear()
        sheets.sheet_of(BITS, RATES).lists.clear()
        self.assertEqual(sheets.rates_of(BITS, sheet), RATES)
        self.assertEqual(sheets.sheet_of(BITS, RATES).lists, sheet.lists)


if __name__ == "__main__":
    unittest.main()
