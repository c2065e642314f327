"""What the tests share: small stores, values of wrong kinds, and checks of errors."""

import random

from sharedunseen.errors import StoreError
from sharedunseen.stores import Store

LETTERS = "abcdefghijklmnopqrstuvwxyz"


class Odd:
    """An object with any attributes."""

    def __init__(self):
        self.size = 1
        self.offices = ((), ())
        self.at = 0
        self.prices = {}
        self.bars = ()
        self.cost = 0
        self.paper = ("loads", {})

    def __getattr__(self, name):
        return 0


class Alike:
    """An object that calls itself equal to everything, and has the hash of a name."""

    def __init__(self, hashed="a"):
        self.hashed = hashed

    def __eq__(self, other):
        return True

    def __hash__(self):
        return hash(self.hashed)

    def __lt__(self, other):
        return True

    __le__ = __gt__ = __ge__ = __lt__


class Touchy:
    """An object that cannot be compared, hashed or measured."""

    __hash__ = None

    def __eq__(self, other):
        raise RuntimeError("compared")

    def __lt__(self, other):
        raise RuntimeError("compared")

    def __len__(self):
        raise RuntimeError("measured")

    def __bool__(self):
        raise RuntimeError("tested")

    __ne__ = __le__ = __gt__ = __ge__ = __lt__


def odd_things():
    """Values that are no integer, no string, no tuple and no dict."""
    return [None, 1.5, 0.0, b"a", [], [0], ["a"], set(), {1}, object(), Odd(), Alike(), Touchy(), int, len]


def not_numbers():
    """Values that are no number."""
    return odd_things() + [True, False, -1, -10 ** 30, "0", "", (), (0,), {}, {0: 0}]


def not_tuples():
    """Values that are no tuple."""
    return odd_things() + [True, 0, 3, "", "abc", {}, {0: 0}]


def not_names():
    """Values that are no name."""
    return odd_things() + [True, 0, (), ("a",), {}, "", "abcdef", "A", "a1", "a ", " a", "ab\n", "a-b", "\u00e4", "a" * 999]


def error_of(test, kind, call, *args, **more):
    """The error of exactly this class that a call must raise."""
    with test.assertRaises(kind) as caught:
        call(*args, **more)
    test.assertIs(caught.exception.__class__, kind)
    return caught.exception


def fault(error):
    """The kind of an error, and what it tells."""
    return (error.__class__.__name__,) + tuple(vars(error).values())


def errors_in_order(test, call, good, wrong):
    """Each wrong argument raises its error, whatever is wrong with those that are checked behind it.

    `good` has right arguments by their names. `wrong` has, in the order of the checks, pairs of a name
    and of a list of pairs: a wrong value, and its error as `fault` tells it.
    """
    call(**good)
    for at, (name, values) in enumerate(wrong):
        for value, told in values:
            behind = {later: rest[0][0] for later, rest in reversed(wrong[at + 1:])}
            for spoilt in ({}, behind):
                args = {**good, **spoilt, name: value}
                with test.assertRaises(StoreError, msg=args) as caught:
                    call(**args)
                test.assertEqual(fault(caught.exception), told, args)


def wrong_numbers(word, *more):
    """Values that are no numbers, and some others, with the error for the argument called `word`."""
    return [(value, ("InvalidNumber", word)) for value in list(more) + not_numbers()]


def wrong_states(*more):
    return [(value, ("InvalidState",)) for value in list(more) + [200, 10 ** 20] + not_numbers()]


def wrong_tuples(*more):
    """Values that are no tuples of states of the right length, with their error."""
    return [(value, ("InvalidState",)) for value in list(more) + not_tuples()]


def wrong_runs(name, *foreign):
    """Values that are no runs although `name` is a name, with their errors."""
    found = [(value, ("InvalidRun", -1)) for value in not_tuples()]
    for item in list(foreign) + not_names() + ["zzzzz"]:
        found += [((item,), ("InvalidRun", 0)), ((name, name, item, None), ("InvalidRun", 2))]
    return found


def wrong_lots(word, *more):
    """Values that are no lots of offices."""
    wrong = not_tuples() + [(8,), (1, 0), (1, 1), (-1,), (True,), ("0",), (0, None), (0, Alike()), (Odd(),), (Touchy(),), [0]]
    return [(value, ("InvalidNumber", word)) for value in list(more) + wrong]


def refused(word, *values):
    """Values that are refused with a word."""
    return [(value, ("Refused", word)) for value in values]


def random_ends(rng, size):
    """Ends of some sort: any, a permutation, all the same, nearly the identity."""
    sort = rng.randrange(5)
    if sort == 0:
        return tuple(rng.sample(range(size), size))
    if sort == 1:
        return (rng.randrange(size),) * size
    if sort == 2:
        ends = list(range(size))
        ends[rng.randrange(size)] = rng.randrange(size)
        return tuple(ends)
    return tuple(rng.randrange(size) for _ in range(size))


def random_names(rng, many):
    """So many unlike names, some of them beginnings of others."""
    names = set()
    while len(names) < many:
        names.add("".join(rng.choice("abz") for _ in range(rng.randrange(1, 5))))
    return rng.sample(sorted(names), many)


def random_store(rng, sizes=(1, 5), offices=(2, 4), operations=(0, 3), answers=2):
    """A small store of any sort."""
    size = rng.randrange(sizes[0], sizes[1])
    counts = [rng.randrange(operations[0], operations[1]) for _ in range(rng.randrange(*offices))]
    names = random_names(rng, sum(counts))
    rows = []
    for count in counts:
        row = []
        for _ in range(count):
            told = tuple(rng.randrange(answers) for _ in range(size)) if rng.randrange(2) else (0,) * size
            row.append((names.pop(), random_ends(rng, size), told))
        rows.append(tuple(row))
    return Store(size, tuple(rows))


def product_store(rng, offices=2, most=3, spoil=False):
    """A store of parts of which each office changes one: nothing clashes, unless it is spoilt."""
    parts = [rng.randrange(1, most + 1) for _ in range(offices)]
    states = [()]
    for part in parts:
        states = [state + (k,) for state in states for k in range(part)]
    number = {state: k for k, state in enumerate(states)}
    names = random_names(rng, 2 * offices)
    rows = []
    for office in range(offices):
        row = []
        for _ in range(rng.randrange(3)):
            ends = random_ends(rng, parts[office])
            told = [rng.randrange(2) for _ in range(parts[office])]
            moved = [number[s[:office] + (ends[s[office]],) + s[office + 1:]] for s in states]
            row.append((names.pop(), tuple(moved), tuple(told[s[office]] for s in states)))
        rows.append(tuple(row))
    if spoil and rows[0]:
        name, ends, told = rows[0][0]
        at = rng.randrange(len(states))
        ends = ends[:at] + (rng.randrange(len(states)),) + ends[at + 1:]
        rows[0] = ((name, ends, told),) + rows[0][1:]
    return Store(len(states), tuple(rows))


def many_stores(seed, many, **more):
    """Small stores of any sort, of parts, and nearly of parts."""
    rng = random.Random(seed)
    for k in range(many):
        if k % 4 == 0 and not more:
            yield product_store(rng, offices=rng.randrange(2, 4))
        elif k % 4 == 1 and not more:
            yield product_store(rng, offices=rng.randrange(2, 4), spoil=True)
        else:
            yield random_store(rng, **more)


def all_ops(store):
    """All operations as a dict of triples (office, ends, answers)."""
    return {name: (k, ends, told) for k, row in enumerate(store.offices) for name, ends, told in row}


def names_in(store, offices=None):
    """The names of the operations of some offices, ascending."""
    chosen = range(len(store.offices)) if offices is None else offices
    return sorted(name for k in chosen for name, _, _ in store.offices[k])


def done(store, state, run):
    """The state to which a run leads, and its answers."""
    told = []
    table = all_ops(store)
    for name in run:
        _, ends, answers = table[name]
        told.append(answers[state])
        state = ends[state]
    return state, tuple(told)


def big_store(size=200, offices=8, operations=40):
    """A store as large as stores may be: each operation turns all states by another number."""
    rows = [[] for _ in range(offices)]
    for k in range(operations):
        name = "z" + LETTERS[k // 26] + LETTERS[k % 26]
        ends = tuple((s + k + 1) % size for s in range(size))
        rows[k % offices].append((name, ends, tuple((s + k) % 3 for s in range(size))))
    return Store(size, tuple(tuple(row) for row in rows))
