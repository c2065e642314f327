"""[90] to [92]: barred operations."""

import itertools
import random
import unittest

from sharedunseen import barring
from sharedunseen.barring import Barred
from sharedunseen.clashes import clashing_pairs
from sharedunseen.errors import InvalidNumber, InvalidRun, Refused
from sharedunseen.stores import Store
from tests.support import LETTERS, Alike, Odd, Touchy, big_store, error_of, many_stores, not_names, not_numbers, not_tuples
from tests.support import odd_things


def store_of_pairs(offices, pairs, names=None):
    """A store whose operations are the numbers below the sum of `offices`; just these pairs clash.

    Each pair has two states of its own: the one operation moves, the other one looks.
    """
    many = sum(offices)
    size = 2 * len(pairs) + 1
    ends = [list(range(size)) for _ in range(many)]
    told = [[0] * size for _ in range(many)]
    for k, (one, other) in enumerate(pairs):
        ends[one][2 * k] = 2 * k + 1
        told[other][2 * k + 1] = 1
    names = names or ["o" + LETTERS[k // 26] + LETTERS[k % 26] for k in range(many)]
    ops = [(names[k], tuple(ends[k]), tuple(told[k])) for k in range(many)]
    rows = []
    for office in offices:
        rows.append(tuple(ops[:office]))
        ops = ops[office:]
    return Store(size, tuple(rows))


def random_pairs(rng, most, offices, density, names=True):
    """A store with up to `most` operations and some clashing pairs between offices."""
    counts = [rng.randrange(0, most // offices + 2) for _ in range(offices)]
    while sum(counts) > most:
        counts[rng.randrange(offices)] = 0
    sides = [k for k, count in enumerate(counts) for _ in range(count)]
    pairs = [(i, j) for i in range(len(sides)) for j in range(i, len(sides)) if sides[i] != sides[j]]
    pairs = [pair for pair in pairs if rng.random() < density][:99]
    order = rng.sample(range(len(sides)), len(sides))
    words = ["o" + LETTERS[k // 26] + LETTERS[k % 26] for k in order]
    return store_of_pairs(counts, pairs, words)


def meeting_lots(store):
    """All lots that meet all clashing pairs."""
    pairs = clashing_pairs(store)
    names = store.names()
    lots = [lot for k in range(len(names) + 1) for lot in itertools.combinations(names, k)]
    return [lot for lot in lots if all(one in lot or other in lot for one, other in pairs)]


def cheapest(store, prices):
    """The cheapest of them, ascending, and their price."""
    lots = meeting_lots(store)
    costs = [sum(prices[name] for name in lot) for lot in lots]
    return tuple(sorted(lot for lot, cost in zip(lots, costs) if cost == min(costs))), min(costs)


def tree_holds(store, prices, cost, node, held=(), kept=()):
    """Whether a node is as [91] describes it."""
    pairs = clashing_pairs(store)
    near = {name: {x for pair in pairs for x in pair if name in pair and x != name} for name in store.names()}
    if node[0] == "loads":
        loads = node[1]
        if not all(key in pairs and not set(key) & set(held) for key in loads):
            return False
        if not all(type(load) is int and load >= 0 for load in loads.values()):
            return False
        for name in store.names():
            if sum(load for key, load in loads.items() if name in key) > 2 * prices[name]:
                return False
        return sum(loads.values()) + 2 * sum(prices[name] for name in set(held)) >= 2 * cost - 1
    word, name, with_it, without_it = node
    if word != "split" or name not in near or name in held or name in kept:
        return False
    if not tree_holds(store, prices, cost, with_it, set(held) | {name}, kept):
        return False
    return tree_holds(store, prices, cost, without_it, set(held) | near[name], set(kept) | {name})


def some_stores(seed, many, most=7):
    rng = random.Random(seed)
    for k in range(many):
        store = random_pairs(rng, most, rng.randrange(2, 5), rng.choice((0.2, 0.5, 0.9)))
        sort = rng.randrange(3)
        prices = {name: 1 if sort == 0 else rng.randrange(1, 4 if sort == 1 else 10 ** 9 + 1) for name in store.names()}
        yield store, prices


def not_prices(store):
    """Values that are no prices of a store with operations, and not None."""
    names = store.names()
    good = {name: 1 for name in names}
    wrong = [value for value in odd_things() if value is not None] + [True, 0, "", (), tuple(good.items()), {}]
    wrong += [{**good, "zzzzz": 1}, {**good, 0: 1}, {**good, None: 1}, {k: 1 for k in names[1:]}]
    wrong += [{**{k: 1 for k in names[1:]}, "zzzzz": 1}, {**{k: 1 for k in names[1:]}, Alike(names[0]): 1}]
    for price in not_numbers() + [0, 10 ** 9 + 1, 10 ** 30]:
        wrong += [{**good, names[0]: price}, {**good, names[-1]: price}]
    return wrong


TRIANGLE = store_of_pairs((1, 1, 1), [(0, 1), (0, 2), (1, 2)], ["a", "b", "c"])
PATH = store_of_pairs((2, 2), [(0, 2), (0, 3), (1, 3)], ["a", "b", "c", "d"])


class WithoutTest(unittest.TestCase):

    def test_by_its_words(self):
        rng = random.Random(51)
        for store in many_stores(52, 100):
            bars = tuple(rng.sample(store.names(), rng.randrange(len(store.names()) + 1)))
            left = barring.without(store, bars)
            self.assertEqual(left.size, store.size)
            self.assertEqual(left.offices, tuple(tuple(op for op in row if op[0] not in bars) for row in store.offices))
            meets = all(set(pair) & set(bars) for pair in clashing_pairs(store))
            self.assertEqual(clashing_pairs(left) == (), meets)
        self.assertEqual(barring.without(store=PATH, bars=()), PATH)

    def test_errors(self):
        for bars in not_tuples():
            self.assertEqual(error_of(self, InvalidRun, barring.without, PATH, bars).at, -1)
        for name in not_names() + ["x"]:
            for at in range(3):
                bars = ["a", "b", "c"]
                bars[at] = name
                self.assertEqual(error_of(self, InvalidRun, barring.without, PATH, tuple(bars)).at, at)
        self.assertEqual(error_of(self, InvalidRun, barring.without, PATH, ("a", "b", "a", "x")).at, 2)


class LeastBarsTest(unittest.TestCase):

    def test_all_lots_tried(self):
        odd = 0
        for store, prices in some_stores(53, 250):
            before = dict(prices)
            lots, cost = cheapest(store, prices)
            found = barring.least_bars(store, prices=prices)
            self.assertIs(found.__class__, Barred)
            self.assertEqual((found.prices, found.bars, found.cost), (prices, lots[0], cost))
            self.assertTrue(tree_holds(store, prices, cost, found.paper))
            self.assertIs(barring.check_barred(store, found), True)
            if len(store.offices) == 2:
                self.assertEqual(found.paper[0], "loads")
                self.assertEqual(sum(found.paper[1].values()), 2 * cost)
                self.assertTrue(all(load % 2 == 0 for load in found.paper[1].values()))
            else:
                odd += found.paper[0] == "split"
            self.assertEqual(prices, before)
            self.assertEqual(barring.all_least_bars(store, prices=prices, most=1000), lots)
            most = len(lots)
            self.assertEqual(barring.all_least_bars(store, prices=prices, most=most), lots)
            error = error_of(self, Refused, barring.all_least_bars, store, prices=prices, most=most - 1)
            self.assertEqual(error.word, "wide")
            words = {}
            for name in store.names():
                many = sum(name in lot for lot in lots)
                words[name] = "always" if many == len(lots) else "some" if many else "never"
            told = barring.bar_words(store, prices=prices)
            self.assertEqual((told, list(told)), (words, sorted(words)))
            self.sparing(store, prices, lots, words)
        self.assertGreater(odd, 10)

    def sparing(self, store, prices, lots, words):
        for office in range(len(store.offices)):
            if len(store.offices) != 2:
                error = error_of(self, Refused, barring.sparing_bars, store, office, prices=prices)
                self.assertEqual(error.word, "offices")
                continue
            own = {name for name, _, _ in store.offices[office]}
            fitting = [lot for lot in lots if all(words[name] == "always" for name in own & set(lot))]
            self.assertEqual(len(fitting), 1)
            self.assertEqual(barring.sparing_bars(store, office, prices=prices), fitting[0])

    def test_price_one(self):
        for store, _ in some_stores(54, 60):
            ones = {name: 1 for name in store.names()}
            self.assertEqual(barring.least_bars(store).prices, ones)
            self.assertEqual(barring.least_bars(store, prices=None).bars, barring.least_bars(store, prices=ones).bars)
            self.assertEqual(barring.bar_words(store), barring.bar_words(store, prices=ones))
            self.assertEqual(barring.all_least_bars(store, most=1000), barring.all_least_bars(store, prices=ones, most=1000))

    def test_prices_change_nothing(self):
        prices = {"a": 1, "b": 10 ** 9, "c": 2, "d": 5}
        found = barring.least_bars(PATH, prices=prices)
        self.assertEqual((found.bars, found.cost), (("a", "d"), 6))
        prices["a"] = 7
        self.assertEqual(found.prices["a"], 1)
        told = barring.bar_words(PATH)
        told["a"] = "x"
        self.assertEqual(barring.bar_words(PATH)["a"], "some")
        self.assertEqual(barring.least_bars(PATH, prices={name: 10 ** 9 for name in "dcba"}).cost, 2 * 10 ** 9)

    def test_wrong_prices(self):
        for store in (PATH, TRIANGLE):
            for prices in not_prices(store):
                for call in (barring.least_bars, barring.all_least_bars, barring.bar_words):
                    self.assertEqual(error_of(self, InvalidNumber, call, store, prices=prices).word, "prices")
                error = error_of(self, InvalidNumber, barring.sparing_bars, store, 0, prices=prices)
                self.assertEqual(error.word, "prices")
                error = error_of(self, InvalidNumber, barring.all_least_bars, store, prices=prices, most=-1)
                self.assertEqual(error.word, "prices")
        none = Store(1, ((), ()))
        self.assertEqual(barring.least_bars(none, prices={}).bars, ())
        self.assertEqual(error_of(self, InvalidNumber, barring.least_bars, none, prices={"a": 1}).word, "prices")

    def test_order_of_errors(self):
        for most in not_numbers() + [1001, 10 ** 30]:
            self.assertEqual(error_of(self, InvalidNumber, barring.all_least_bars, PATH, most=most).word, "most")
        self.assertEqual(error_of(self, Refused, barring.all_least_bars, PATH, most=0).word, "wide")
        for office in not_numbers() + [2, 10 ** 30]:
            for prices in (None, 5):
                error = error_of(self, InvalidNumber, barring.sparing_bars, PATH, office, prices=prices)
                self.assertEqual(error.word, "office")
        self.assertEqual(error_of(self, InvalidNumber, barring.sparing_bars, TRIANGLE, 3).word, "office")
        self.assertEqual(error_of(self, InvalidNumber, barring.sparing_bars, TRIANGLE, 2, prices={}).word, "prices")
        self.assertEqual(error_of(self, Refused, barring.sparing_bars, TRIANGLE, 2).word, "offices")
        with self.assertRaises(TypeError):
            barring.least_bars(PATH, None)

    def test_one_lot_more_than_most(self):
        pairs = [(k, k + 10) for k in range(10)]
        store = store_of_pairs((10, 10), pairs)
        self.assertEqual(error_of(self, Refused, barring.all_least_bars, store, most=1000).word, "wide")
        self.assertEqual(error_of(self, Refused, barring.all_least_bars, store).word, "wide")
        store = store_of_pairs((6, 6), [(k, k + 6) for k in range(6)])
        lots = barring.all_least_bars(store, most=64)
        self.assertEqual(len(lots), 64)
        self.assertEqual(list(lots), sorted(lots))
        self.assertEqual(error_of(self, Refused, barring.all_least_bars, store, most=63).word, "wide")
        # Two strings of pairs have 3 * 7 lots, as many as 4 * 5 and one more.
        strings = [(0, 10), (0, 11), (1, 11), (2, 12), (2, 13), (3, 13), (3, 14), (4, 14), (4, 15), (5, 15), (5, 16), (6, 16)]
        strings += [(6, 17), (7, 17)]
        self.assertEqual(len(barring.all_least_bars(store_of_pairs((10, 10), strings), most=21)), 21)
        error = error_of(self, Refused, barring.all_least_bars, store_of_pairs((10, 10), strings))
        self.assertEqual(error.word, "wide")
        strings = [(0, 10), (0, 11), (1, 11), (1, 12), (2, 12), (3, 13), (3, 14), (4, 14), (4, 15), (5, 15), (5, 16), (6, 16)]
        self.assertEqual(len(barring.all_least_bars(store_of_pairs((10, 10), strings))), 20)
        wide = store_of_pairs((3, 3, 3), [(k, k + 3) for k in range(6)])
        self.assertEqual(len(barring.all_least_bars(wide, most=1000)), 1)

    def test_big_two_offices(self):
        rng = random.Random(55)
        for density in (0.05, 0.1, 0.2):
            pairs = [(i, j) for i in range(20) for j in range(20, 40) if rng.random() < density][:99]
            store = store_of_pairs((20, 20), pairs)
            self.assertEqual(len(store.names()), 40)
            for prices in (None, {name: rng.randrange(1, 10 ** 9) for name in store.names()}):
                found = barring.least_bars(store, prices=prices)
                self.assertIs(barring.check_barred(store, found), True)
                self.assertTrue(tree_holds(store, found.prices, found.cost, found.paper))
                for office in (0, 1):
                    bars = barring.sparing_bars(store, office, prices=prices)
                    self.assertEqual(sum(found.prices[name] for name in bars), found.cost)
        store = store_of_pairs((20, 20), [(k, k + 20) for k in range(20)])
        self.assertEqual(barring.bar_words(store), {name: "some" for name in store.names()})
        self.assertEqual(barring.least_bars(big_store(offices=2)).cost, len(barring.least_bars(big_store(offices=2)).bars))

    def test_big_many_offices(self):
        rng = random.Random(56)
        stores = [random_pairs(rng, 16, offices, density) for offices in (3, 5, 8) for density in (0.2, 0.5, 0.9)]
        stores.append(store_of_pairs((5, 5, 5), [(k, k + 5) for k in range(10)] + [(k, k + 10) for k in range(5)]))
        stores.append(store_of_pairs((2,) * 8, [(i, j) for i in range(16) for j in range(i, 16) if i // 2 != j // 2][:99]))
        for store in stores:
            found = barring.least_bars(store)
            self.assertTrue(tree_holds(store, found.prices, found.cost, found.paper))
            self.assertIs(barring.check_barred(store, found), True)
            self.assertEqual(set(barring.bar_words(store)), set(store.names()))
        self.assertEqual(len(barring.all_least_bars(stores[-2], most=1000)), 3 ** 5)


class CheckBarredTest(unittest.TestCase):

    def check(self, store, *parts):
        value = Barred(*parts)
        kept = {name: getattr(value, name) for name in ("prices", "bars", "cost", "paper")}
        found = barring.check_barred(store, value)
        self.assertEqual([kept[name] is getattr(value, name) for name in kept], [True] * 4)
        return found

    def test_no_barred(self):
        for value in odd_things() + [0, True, "", (), {}, PATH]:
            self.assertIs(barring.check_barred(PATH, value), False)
        self.assertIs(barring.check_barred(store=PATH, value=barring.least_bars(PATH)), True)

    def test_one_part_changed(self):
        for store in (PATH, TRIANGLE):
            good = barring.least_bars(store)
            parts = [good.prices, good.bars, good.cost, good.paper]
            self.assertIs(self.check(store, *parts), True)
            for at in range(4):
                for part in odd_things() + [True, (), "", {}, -1, 0, 5, 10 ** 30, ("a",), ("loads",), ("loads", {})]:
                    changed = parts[:at] + [part] + parts[at + 1:]
                    self.assertIs(self.check(store, *changed), False, part)
            for prices in not_prices(store):
                self.assertIs(self.check(store, prices, *parts[1:]), False)
            self.assertIs(self.check(store, {**good.prices, "a": 2}, *parts[1:]), False)
            wrong = [good.bars[::-1], good.bars[1:], good.bars + good.bars[-1:], list(good.bars), good.bars + ("zz",)]
            for bars in wrong + [(None,), ("a", 1), (Alike("a"),), ("a", Touchy()), store.names()]:
                self.assertIs(self.check(store, good.prices, bars, good.cost, good.paper), False)
            for cost in (good.cost - 1, good.cost + 1, float(good.cost), str(good.cost)):
                self.assertIs(self.check(store, good.prices, good.bars, cost, good.paper), False)

    def test_dearer_lots(self):
        for store, prices in some_stores(57, 60, most=6):
            good = barring.least_bars(store, prices=prices)
            for lot in meeting_lots(store):
                cost = sum(prices[name] for name in lot)
                self.assertIs(self.check(store, prices, lot, cost, good.paper), cost == good.cost)
            for lot in itertools.combinations(store.names(), 2):
                cost = sum(prices[name] for name in lot)
                if lot not in meeting_lots(store):
                    self.assertIs(self.check(store, prices, lot, cost, good.paper), False)

    def test_cost_true(self):
        store = store_of_pairs((1, 1), [(0, 1)], ["a", "b"])
        paper = ("loads", {("a", "b"): 2})
        self.assertIs(self.check(store, {"a": 1, "b": 1}, ("a",), 1, paper), True)
        self.assertIs(self.check(store, {"a": 1, "b": 1}, ("b",), 1, paper), True)
        self.assertIs(self.check(store, {"a": 1, "b": 1}, ("a",), True, paper), False)
        self.assertIs(self.check(store, {"a": 1, "b": True}, ("a",), 1, paper), False)

    def test_loads(self):
        prices = {name: 1 for name in "abcd"}
        good = {("a", "c"): 2, ("b", "d"): 2}
        for loads, verdict in ((good, True), ({("a", "c"): 2, ("b", "d"): 1}, True), ({("a", "c"): 1, ("b", "d"): 1}, False),
                               ({**good, ("a", "d"): 0}, True), ({**good, ("a", "d"): 1}, False), ({("a", "c"): 2}, False),
                               ({("a", "c"): 3, ("b", "d"): 1}, False), ({("c", "a"): 2, ("b", "d"): 2}, False),
                               ({**good, ("b", "c"): 0}, False), ({**good, ("a", "b"): 0}, False), ({**good, 0: 0}, False),
                               ({**good, "ad": 0}, False), ({**good, ("a", 0): 0}, False), ({**good, Alike(): 0}, False),
                               ({("a", "c"): 2, ("b", "d"): True}, False), ({("a", "c"): 2, ("b", "d"): None}, False),
                               ({("a", "c"): 2, ("b", "d"): 2, ("a", "d"): -1}, False), ({("a", "c"): 2.0, ("b", "d"): 2}, False),
                               ({**good, ("a", "d"): Touchy()}, False), ({**good, ("a", "d", "x"): 0}, False)):
            self.assertIs(self.check(PATH, prices, ("a", "b"), 2, ("loads", loads)), verdict, loads)
        alike = {(Alike("a"), "c"): 2, ("b", "d"): 2}
        self.assertIs(self.check(PATH, prices, ("a", "b"), 2, ("loads", alike)), False)
        alike = {Alike(("a", "c")): 2, ("b", "d"): 2}
        self.assertIs(self.check(PATH, prices, ("a", "b"), 2, ("loads", alike)), False)
        for loads in odd_things() + [True, 0, 4, "", (), tuple(good.items()), list(good.items())]:
            self.assertIs(self.check(PATH, prices, ("a", "b"), 2, ("loads", loads)), False)
        for word in ("load", "split", None, Alike("loads"), Touchy(), b"loads", ("loads",)):
            self.assertIs(self.check(PATH, prices, ("a", "b"), 2, (word, good)), False)
        self.assertIs(self.check(PATH, prices, ("a", "b"), 2, ["loads", good]), False)
        self.assertIs(self.check(PATH, prices, ("a", "b"), 2, ("loads", good, good)), False)

    def test_splits(self):
        prices = {name: 1 for name in "abc"}
        held = ("loads", {("b", "c"): 1})
        kept = ("loads", {})
        for paper, verdict in ((("split", "a", held, kept), True), (("split", "a", kept, kept), False),
                               (("split", "a", ("loads", {}), held), False), (("split", "a", held), False),
                               (("split", "a", held, kept, kept), False), (("split", "x", held, kept), False),
                               (("split", None, held, kept), False), (("split", Alike("a"), held, kept), False),
                               (("split", "a", ("loads", {("a", "b"): 1}), kept), False),
                               (("split", "a", ("split", "a", held, held), kept), False),
                               (("split", "a", ("split", "a", held, kept), kept), False),
                               (("split", "a", held, ("split", "b", kept, kept)), False),
                               (("split", "a", held, ("split", "c", kept, kept)), False),
                               (("split", "a", held, ("split", "a", kept, kept)), False),
                               (("split", "a", ("split", "b", kept, kept), kept), True),
                               (("split", "a", held, None), False), (("split", "a", None, kept), False),
                               (["split", "a", held, kept], False), (("loads", "a", held, kept), False)):
            self.assertIs(self.check(TRIANGLE, prices, ("a", "b"), 2, paper), verdict, paper)
            # The document's own rules, where the value has the form of a tree at all.
            if isinstance(paper, tuple) and len(paper) == 4 and isinstance(paper[1], str) and paper[2] and paper[3]:
                self.assertIs(tree_holds(TRIANGLE, prices, 2, paper), verdict)

    def test_deep_papers(self):
        chain = ("loads", {})
        for k in range(20000):
            chain = ("split", "abc"[k % 3], ("loads", {}), chain)
        self.assertIs(self.check(TRIANGLE, {name: 1 for name in "abc"}, ("a", "b"), 2, chain), False)
        shared = ("loads", {})
        for k in range(2000):
            shared = ("split", "abc"[k % 3], shared, shared)
        self.assertIs(self.check(TRIANGLE, {name: 1 for name in "abc"}, ("a", "b"), 2, shared), False)
        touchy = ("split", Touchy(), ("split", "a", chain, chain), ("split", "a", chain, chain))
        self.assertIs(self.check(TRIANGLE, {name: 1 for name in "abc"}, ("a", "b"), 2, touchy), False)
        nested = ()
        for k in range(20000):
            nested = (nested, nested)
        self.assertIs(self.check(TRIANGLE, {name: 1 for name in "abc"}, ("a", "b"), 2, nested), False)

    def test_arguments_are_copied(self):
        prices = {name: 1 for name in "abc"}
        loads = {("b", "c"): 1}
        value = Barred(prices=prices, bars=("a", "b"), cost=2, paper=("split", "a", ("loads", loads), ("loads", {})))
        prices["a"] = 9
        loads[("b", "c")] = 0
        self.assertEqual(value.prices, {name: 1 for name in "abc"})
        self.assertEqual(value.paper, ("split", "a", ("loads", {("b", "c"): 1}), ("loads", {})))
        self.assertIs(barring.check_barred(TRIANGLE, value), True)
        rows = {("a", "c"): 2, ("b", "d"): 2}
        flat = Barred({name: 1 for name in "abcd"}, ("a", "b"), 2, ("loads", rows))
        rows.clear()
        self.assertIs(barring.check_barred(PATH, flat), True)


if __name__ == "__main__":
    unittest.main()
