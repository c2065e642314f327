"""[93]: operations that wait while the line is cut."""

import itertools
import random
import time
import unittest

from sharedunseen import waits
from sharedunseen.barring import without
from sharedunseen.clashes import clash_of
from sharedunseen.errors import InvalidNumber, InvalidState
from sharedunseen.stores import Store
from tests.sorts import all_sorts, runs_up_to
from tests.support import Alike, Odd, Touchy, all_ops, done, error_of, many_stores, names_in, not_numbers, not_tuples
from tests.support import odd_things, random_store
from tests.test_barring import not_prices
from tests.test_homes import lots_of
from tests.test_notices import noticed_by_words

PARTS = ("states", "prices", "bars", "cost", "paper")
STORE = Store(3, ((("a", (1, 1, 2), (0, 0, 0)),), (("b", (0, 2, 2), (0, 0, 0)), ("c", (2, 1, 2), (0, 0, 1)))))


def is_noisy(store, state, run):
    """Whether the last two operations clash where the others lead."""
    owners = {name: office for name, (office, _, _) in all_ops(store).items()}
    if len(run) < 2 or owners[run[-2]] == owners[run[-1]]:
        return False
    return clash_of(store, run[-2], run[-1], done(store, state, run[:-2])[0]) is not None


def noisy_states(store):
    """The states at which some operations clash, with their names."""
    found = {}
    for one, other in itertools.combinations(sorted(all_ops(store)), 2):
        if store.office_of(one) != store.office_of(other):
            for state in range(store.size):
                if clash_of(store, one, other, state) is not None:
                    found.setdefault(state, []).append({one, other})
    return found


def is_quiet(store, states, bars, noisy):
    """Whether no run from the states without some operations is noisy."""
    seen = set(states)
    todo = list(states)
    while todo:
        here = todo.pop()
        if any(not pair & set(bars) for pair in noisy.get(here, [])):
            return False
        for row in store.offices:
            for name, ends, _ in row:
                if name not in bars and ends[here] not in seen:
                    seen.add(ends[here])
                    todo.append(ends[here])
    return True


def cheapest_by_words(store, states, prices):
    """The first cheapest lot without which nothing is noisy: all tried."""
    names = store.names()
    noisy = noisy_states(store)
    lots = [lot for k in range(len(names) + 1) for lot in itertools.combinations(names, k)]
    return min((sum(prices[name] for name in lot), lot) for lot in lots if is_quiet(store, states, lot, noisy))


def tree_holds(store, states, prices, cost, node, held=(), kept=()):
    if node == ("dear",):
        return sum(prices[name] for name in held) >= cost
    if len(node) != 4 or node[0] != "run":
        return False
    _, state, run, nodes = node
    if state not in states or set(run) & set(held) or not is_noisy(store, state, run):
        return False
    names = sorted(set(run) - set(kept))
    if len(nodes) != len(names):
        return False
    return all(tree_holds(store, states, prices, cost, further, held + (name,), kept + tuple(names[:k]))
               for k, (name, further) in enumerate(zip(names, nodes)))


def parts_of(value):
    return {part: getattr(value, part) for part in PARTS}


def some_states(rng, store):
    return tuple(sorted(rng.sample(range(store.size), rng.randrange(store.size + 1))))


def some_stores(seed, many):
    rng = random.Random(seed)
    for k in range(many):
        yield random_store(rng, sizes=(2, 6), offices=(2, 4), operations=(1, 4) if k % 2 else (0, 3))


class NoisyTest(unittest.TestCase):

    def test_all_runs_tried(self):
        lengths = set()
        rng = random.Random(361)
        for store in all_sorts(362, 120):
            states = some_states(rng, store)
            found = waits.noisy_run(store, states)
            most = min(store.size + 1 if found is None else len(found[1]) - 1, 4)
            for run in runs_up_to(names_in(store)[:4], most):
                for state in states:
                    self.assertFalse(is_noisy(store, state, run))
            if found is not None:
                state, run = found
                self.assertIsInstance(found, tuple)
                self.assertIsInstance(run, tuple)
                self.assertIn(state, states)
                self.assertTrue(is_noisy(store, state, run))
            else:
                self.assertTrue(is_quiet(store, states, (), noisy_states(store)))
            lengths.add(found and len(found[1]))
        self.assertTrue({None, 2, 3} <= lengths)

    def test_noticed(self):
        """No cut from the states is noticed exactly if there is no noisy run."""
        for store in many_stores(363, 100, sizes=(1, 5), offices=(2, 3), operations=(0, 3)):
            for states in lots_of(store.size):
                heard = any(noticed_by_words(store, state, run) for state in states for run in runs_up_to(names_in(store), 3))
                found = waits.noisy_run(store, states)
                if heard:
                    self.assertIsNotNone(found)
                if found is not None and len(found[1]) < 4:
                    self.assertTrue(heard)

    def test_errors(self):
        wrong = not_tuples() + [(3,), (1, 0), (1, 1), (-1,), (True,), (0, "1"), (None,), (0, Alike()), (Odd(),), (Touchy(),), [0]]
        for states in wrong:
            error_of(self, InvalidState, waits.noisy_run, STORE, states)
            error_of(self, InvalidState, waits.least_waits, STORE, states, prices=0)
        for value in not_prices(STORE):
            error = error_of(self, InvalidNumber, waits.least_waits, STORE, (0,), prices=value)
            self.assertEqual(error.word, "prices")
        self.assertIsNone(waits.noisy_run(store=STORE, states=()))
        with self.assertRaises(TypeError):
            waits.least_waits(STORE, (0,), None)

    def test_long(self):
        size = 200
        go = tuple(min(s + 1, 199) for s in range(size))
        store = Store(size, ((("a", go, (0,) * size), ("n", tuple(range(size)), (0,) * 199 + (1,))), (("b", (0,) * 200, (0,) * 200),)))
        at = waits.noisy_run(store, (150,))
        self.assertEqual(len(at[1]), 2)
        quiet = Store(size, ((("a", go, (0,) * size),), (("n", tuple(range(size)), (0,) * 199 + (1,)),)))
        state, run = waits.noisy_run(quiet, (0, 30, 199))
        self.assertEqual((state, len(run)), (30, 168 + 2))
        self.assertTrue(is_noisy(quiet, state, run))


class LeastWaitsTest(unittest.TestCase):

    def test_all_lots_tried(self):
        rng = random.Random(371)
        seen = set()
        for store in some_stores(372, 250):
            states = some_states(rng, store)
            prices = {name: rng.choice((1, 1, 2, 3, 10 ** 9)) for name in store.names()}
            for told in (None, prices):
                plain = {name: 1 for name in store.names()} if told is None else told
                value = waits.least_waits(store, states, prices=told)
                cost, bars = cheapest_by_words(store, states, plain)
                self.assertIs(value.__class__, waits.Waits)
                self.assertEqual((value.states, value.prices, value.bars, value.cost), (states, plain, bars, cost))
                self.assertTrue(tree_holds(store, states, plain, cost, value.paper))
                self.assertIs(waits.check_waits(store, value), True)
                self.assertIsNone(waits.noisy_run(without(store, bars), states))
                seen.add(len(bars))
        self.assertTrue({0, 1, 2, 3} <= seen)

    def test_prices_change_nothing(self):
        prices = {"c": 10 ** 9, "b": 5, "a": 10 ** 9}
        value = waits.least_waits(store=STORE, states=(0, 1, 2), prices=prices)
        self.assertEqual(prices, {"c": 10 ** 9, "b": 5, "a": 10 ** 9})
        prices.clear()
        self.assertIs(waits.check_waits(STORE, value), True)
        copied = waits.Waits(**parts_of(value))
        value.prices.clear()
        self.assertIs(waits.check_waits(STORE, copied), True)
        self.assertIs(waits.check_waits(STORE, value), False)
        kept = waits.Waits(1, 2, 3, 4, 5)
        self.assertEqual(parts_of(kept), dict(zip(PARTS, (1, 2, 3, 4, 5))))

    def test_edges(self):
        empty = waits.least_waits(STORE, ())
        self.assertEqual((empty.bars, empty.cost, empty.paper), ((), 0, ("dear",)))
        self.assertIs(waits.check_waits(STORE, empty), True)
        none = waits.least_waits(Store(1, ((), ())), (0,))
        self.assertEqual((none.prices, none.bars, none.cost), ({}, (), 0))
        cheap = waits.least_waits(STORE, (0, 1, 2), prices={"a": 10 ** 9, "b": 1, "c": 1})
        self.assertEqual((cheap.bars, cheap.cost), (("b", "c"), 2))
        dear = waits.least_waits(STORE, (0, 1, 2), prices={"a": 1, "b": 1, "c": 10 ** 9})
        self.assertEqual((dear.bars, dear.cost), (("a",), 1))
        once = Store(2, ((("x", (1, 1), (0, 0)),), (("y", (0, 0), (0, 0)),)))
        value = waits.least_waits(once, (0, 1))
        self.assertEqual((value.bars, value.cost, value.paper[0]), (("x",), 1, "run"))

    def test_fourteen_operations(self):
        rng = random.Random(373)
        start = time.time()
        for offices, size in (((7, 7), 200), ((5, 5, 4), 200), ((2,) * 7, 60), ((7, 7), 12)):
            names = iter("abcdefghijklmn")
            rows = []
            for count in offices:
                rows.append(tuple((next(names), tuple(rng.randrange(size) if rng.randrange(20) == 0 else s for s in range(size)), (0,) * size)
                                  for _ in range(count)))
            store = Store(size, tuple(rows))
            prices = {name: rng.randrange(1, 50) for name in store.names()}
            value = waits.least_waits(store, tuple(range(0, size, 3)), prices=prices)
            self.assertIs(waits.check_waits(store, value), True)
            self.assertTrue(tree_holds(store, value.states, prices, value.cost, value.paper))
        self.assertLess(time.time() - start, 60)


class CheckWaitsTest(unittest.TestCase):

    def check(self, store, parts):
        return waits.check_waits(store, waits.Waits(**parts))

    def nodes(self, node, path=()):
        yield path, node
        if node[0] == "run":
            for k, further in enumerate(node[3]):
                yield from self.nodes(further, path + (k,))

    def replaced(self, node, path, fresh):
        if not path:
            return fresh
        nodes = node[3][:path[0]] + (self.replaced(node[3][path[0]], path[1:], fresh),) + node[3][path[0] + 1:]
        return node[:3] + (nodes,)

    def test_trees_with_one_node_changed(self):
        rng = random.Random(381)
        verdicts = [0, 0]
        for store in some_stores(382, 80):
            states = some_states(rng, store)
            good = parts_of(waits.least_waits(store, states))
            names = names_in(store)
            for path, node in list(self.nodes(good["paper"]))[:12]:
                run = tuple(rng.choice(names) for _ in range(rng.randrange(4))) if names else ()
                fresh = [("dear",), ("run", rng.randrange(store.size), run, ()), ("dear", ()), ("run",), ()]
                if node[0] == "run":
                    _, state, old, nodes = node
                    fresh += [("run", other, old, nodes) for other in range(store.size)]
                    fresh += [("run", state, other, nodes) for other in (old[1:], old[:-1], run + old, old[::-1], run)]
                    fresh += [("run", state, old, nodes[1:]), ("run", state, old, nodes + nodes[:1]), ("run", state, old, nodes[::-1])]
                for other in fresh:
                    paper = self.replaced(good["paper"], path, other)
                    expected = tree_holds(store, states, good["prices"], good["cost"], paper) if self.is_formed(other) else False
                    self.assertIs(self.check(store, {**good, "paper": paper}), expected)
                    verdicts[expected] += 1
        self.assertGreater(min(verdicts), 80)

    def is_formed(self, node):
        return node == ("dear",) or len(node) == 4

    def test_other_lots(self):
        """Any lot without which nothing is noisy is accepted, with its price, if the tree fits; a dearer one is not."""
        found = [0, 0]
        for store in some_stores(383, 60):
            states = tuple(range(store.size))
            value = waits.least_waits(store, states)
            for many in range(4):
                for lot in itertools.combinations(store.names(), many):
                    quiet = waits.noisy_run(without(store, lot), states) is None
                    parts = {**parts_of(value), "bars": lot, "cost": len(lot)}
                    expected = quiet and len(lot) == value.cost
                    self.assertIs(self.check(store, parts), expected)
                    if quiet and lot:
                        self.assertIs(self.check(store, {**parts, "cost": value.cost}), expected)
                    found[expected] += 1
        self.assertGreater(min(found), 30)

    def test_dearer_lots_have_no_tree(self):
        store = STORE
        value = waits.least_waits(store, (0, 1, 2))
        self.assertEqual(value.bars, ("a",))
        parts = {**parts_of(value), "bars": ("a", "b"), "cost": 2}
        self.assertIs(self.check(store, parts), False)
        self.assertIs(self.check(store, {**parts, "paper": ("dear",)}), False)

    def test_any_value(self):
        good = parts_of(waits.least_waits(STORE, (0, 1, 2)))
        self.assertIs(waits.check_waits(store=STORE, value=waits.Waits(**good)), True)
        odd = Odd()
        for part in PARTS:
            setattr(odd, part, good[part])
        for value in odd_things() + [True, 0, 1, (), "abc", {}, odd, waits.Waits]:
            self.assertIs(waits.check_waits(STORE, value), False)
            for part in PARTS:
                expected = part == "cost" and value.__class__ is int and value == 1
                self.assertIs(self.check(STORE, {**good, part: value}), expected, part)
            for name in "abc":
                expected = value.__class__ is int and value > 0
                self.assertIs(self.check(STORE, {**good, "prices": {**good["prices"], name: value}}), expected)
            self.assertIs(self.check(STORE, {**good, "bars": (value,)}), False)
            self.assertIs(self.check(STORE, {**good, "bars": ("a", value)}), False)
            expected = value.__class__ is int and tree_holds(STORE, (value,), good["prices"], 1, good["paper"])
            self.assertIs(self.check(STORE, {**good, "states": (value,)}), expected)
            self.assertIs(self.check(STORE, {**good, "paper": (value,)}), False)
            node = good["paper"]
            for at in range(4):
                paper = node[:at] + (value,) + node[at + 1:]
                self.assertIs(self.check(STORE, {**good, "paper": paper}), at == 1 and value.__class__ is int and tree_holds(
                    STORE, (0, 1, 2), good["prices"], 1, paper))
            self.assertIs(self.check(STORE, {**good, "paper": node[:2] + ((value,),) + node[3:]}), False)
            self.assertIs(self.check(STORE, {**good, "paper": node[:3] + ((value,) * len(node[3]),)}), False)

    def test_wrong_parts(self):
        good = parts_of(waits.least_waits(STORE, (0, 1, 2)))
        for prices in not_prices(STORE) + [None]:
            self.assertIs(self.check(STORE, {**good, "prices": prices}), False)
        for bars in (("x",), ("b", "a"), ("a", "a"), ["a"], (), ("b",), "a", ("a", "b")):
            self.assertIs(self.check(STORE, {**good, "bars": bars}), False)
        for cost in (0, 2, -1, True, 1.0, "1", None):
            self.assertIs(self.check(STORE, {**good, "cost": cost}), False)
        for states in ((3,), (1, 0), (0, 0), (True,), [0, 1, 2], (-1,), (0, None)):
            self.assertIs(self.check(STORE, {**good, "states": states}), False)
        for number in not_numbers():
            self.assertIs(self.check(STORE, {**good, "paper": ("run", number, ("a", "b"), ())}), False)

    def test_long_runs(self):
        store = Store(2, ((("x", (1, 1), (0, 0)), ("s", (1, 0), (0, 0))), (("y", (0, 0), (0, 0)),)))
        value = waits.least_waits(store, (0,))
        node = value.paper
        self.assertEqual(node[0], "run")
        self.assertIs(waits.check_waits(store, value), True)
        run = ("x",) * 9998 + ("x", "y")
        held = ("run", 0, run, (("dear",), ("dear",)))
        one = {**parts_of(value), "prices": {"x": 1, "s": 1, "y": 1}, "bars": ("y",), "cost": 1, "paper": held}
        self.assertIs(self.check(store, one), True)
        self.assertIs(self.check(store, {**one, "paper": ("run", 0, run + ("x", "x"), (("dear",), ("dear",)))}), False)


if __name__ == "__main__":
    unittest.main()
