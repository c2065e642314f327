"""Small stores of the sorts that the document speaks of: smooth, unseen and reversible ones."""

import itertools
import random

from sharedunseen.stores import Store
from tests.support import many_stores, names_in, random_names, random_store
from tests.test_clashes import clashes_by_words
from tests.test_groups import both, orders, ring
from tests.test_homes import reach_by_words

TABLES = [ring(1), ring(2), ring(3), ring(4), both(ring(2), ring(2)), orders(3)]


def commutes(table):
    return all(table[i][j] == table[j][i] for i in range(len(table)) for j in range(i))


def any_goals(rng, part):
    """Where an operation leads so many own parts: an order of them or any ones."""
    return rng.sample(range(part), part) if rng.randrange(2) else [rng.randrange(part) for _ in range(part)]


def sinking_goals(rng, part):
    """As `any_goals`, but every other part is left by no operation."""
    return [own if own % 2 else rng.randrange(part) for own in range(part)]


def part_store(rng, table, parts, counts=(0, 3), answers=2, goals_of=any_goals):
    """A store of own parts and a share, which office 0 multiplies from the left, the others from the right."""
    many = len(table)
    states = list(itertools.product(*[range(part) for part in parts], range(many)))
    order = rng.sample(range(len(states)), len(states))
    number = {state: order[k] for k, state in enumerate(states)}
    rows = []
    names = random_names(rng, len(parts) * counts[1])
    for office, part in enumerate(parts):
        row = []
        for _ in range(rng.randrange(counts[0], counts[1])):
            goals = goals_of(rng, part)
            factors = [rng.randrange(many) for _ in range(part)]
            told = [rng.randrange(answers) for _ in range(part)]
            ends = [0] * len(states)
            heard = [0] * len(states)
            for state in states:
                own, share = state[office], state[-1]
                moved = table[factors[own]][share] if office == 0 else table[share][factors[own]]
                goal = state[:office] + (goals[own],) + state[office + 1:-1] + (moved,)
                ends[number[state]] = number[goal]
                heard[number[state]] = told[own]
            row.append((names.pop(), tuple(ends), tuple(heard)))
        rows.append(tuple(row))
    return Store(len(states), tuple(rows))


def turned_store(rng):
    """A store of three offices, each of which turns the shares of a ring of three and adds to them.

    It has shares that go round the other way behind runs of all three offices.
    """
    states = list(itertools.product(range(2), range(2), range(3)))
    order = rng.sample(range(12), 12)
    number = {state: order[k] for k, state in enumerate(states)}
    rows = [[] for _ in range(3)]
    for one, two, share in states:
        sign = {0: 1, 1: -1}
        added = [(one, two, (share + 1) % 3), (one, two, (share + sign[one]) % 3), (one, two, (share + sign[two]) % 3)]
        turned = [(1 - one, 1 - two, -share % 3), (1 - one, two, share), (one, 1 - two, share)]
        for office in range(3):
            rows[office].append((order[states.index((one, two, share))], number[added[office]], number[turned[office]]))
    offices = []
    for office, row in enumerate(rows):
        row.sort()
        letter = "abc"[office]
        offices.append(((letter + "s", tuple(a for _, a, _ in row), (0,) * 12), (letter + "t", tuple(t for _, _, t in row), (0,) * 12)))
    return Store(12, tuple(offices))


def is_reversible(store):
    return all(len(reached) == store.size for reached in reach_by_words(store))


def is_unseen(store):
    return not clashes_by_words(store)


def is_smooth(store):
    return not [clash for clash in clashes_by_words(store) if clash[3] == "ends"]


def other_answers(rng, store):
    """The store with any answers."""
    rows = []
    for row in store.offices:
        rows.append(tuple((name, ends, tuple(rng.randrange(2) for _ in ends)) for name, ends, _ in row))
    return Store(store.size, tuple(rows))


def random_part_store(rng, offices=2, most=3, size=24, **more):
    """A store of parts of any group, a commutative one if there are more than two offices."""
    while True:
        table = rng.choice(TABLES)
        parts = [rng.randrange(1, most + 1) for _ in range(offices)]
        states = len(table)
        for part in parts:
            states *= part
        if states <= size and (offices == 2 or commutes(table)):
            return part_store(rng, table, parts, **more)


def whole_stores(seed, many, offices=2, **more):
    """Unseen reversible stores."""
    rng = random.Random(seed)
    found = 0
    while found < many:
        store = turned_store(rng) if offices > 2 and rng.randrange(8) == 0 else random_part_store(rng, offices, **more)
        if is_reversible(store):
            found += 1
            yield store


def smooth_stores(seed, many):
    """Smooth stores: unseen and seen ones, reversible and one-way ones."""
    rng = random.Random(seed)
    for k in range(many):
        store = random_part_store(rng, rng.randrange(2, 4), size=16)
        yield store if k % 2 else other_answers(rng, store)


def all_sorts(seed, many):
    """Stores of all sorts."""
    yield from many_stores(seed, many)
    yield from smooth_stores(seed, many // 2)
    yield from whole_stores(seed, many // 4)
    yield from whole_stores(seed, many // 4, offices=3, size=16)


def random_run(rng, store, most, offices=None):
    """A run of at most so many operations."""
    names = names_in(store, offices)
    return tuple(rng.choice(names) for _ in range(rng.randrange(most + 1))) if names else ()


def runs_up_to(names, most):
    """All runs of so many operations at most, shorter ones first, ascending."""
    return [run for length in range(most + 1) for run in itertools.product(sorted(names), repeat=length)]


def shortest_by_words(store, state, goal, offices=None):
    """The first of the shortest runs of some offices, all lengths tried over the tuples of states."""
    names = names_in(store, offices)
    table = {name: ends for row in store.offices for name, ends, _ in row}
    layer = {state: ()}
    seen = {state}
    while goal not in layer and layer:
        fresh = {}
        for here, run in layer.items():
            for name in names:
                there = table[name][here]
                if there not in seen and (there not in fresh or run + (name,) < fresh[there]):
                    fresh[there] = run + (name,)
        seen |= set(fresh)
        layer = fresh
    return layer.get(goal)


def tiny_stores(seed, many):
    """Stores of a few states, each with one or two operations of each office."""
    rng = random.Random(seed)
    for _ in range(many):
        yield random_store(rng, sizes=(1, 4), operations=(0, 3))
