"""Names of the states of stores of two offices: an own part, a share of a group, and an other part."""

from sharedunseen.checks import first_unknown
from sharedunseen.errors import InvalidTable, Refused
from sharedunseen.groups import check_table
from sharedunseen.homes import homes, need_unseen_reversible
from sharedunseen.kinds import MOST_ANSWER, are_below, is_below
from sharedunseen.shared import shared_group
from sharedunseen.stores import Store


class Names:
    """The names of the states of a store, and what its operations do to them."""

    def __init__(self, owns, others, shares, table, left, right, answers):
        self.owns = owns
        self.others = others
        self.shares = shares
        self.table = table
        self.left = copied(left)
        self.right = copied(right)
        self.answers = copied(answers)


def copied(table):
    """A copy of a dict; another value itself."""
    return {key: table[key] for key in table} if isinstance(table, dict) else table


def need_two_offices(store):
    """Raises unless a store has two offices, nothing clashes in it, and each state can be reached from each."""
    if len(store.offices) > 2:
        raise Refused("offices")
    need_unseen_reversible(store)


def names_of(store):
    """Some names of the states of a store."""
    need_two_offices(store)
    return names_around(store, 0)


def names_around(store, base):
    """Names in which a state has the share 0, with factors 0 on a way from its parts to all others."""
    owns = homes(store, 1)
    others = homes(store, 0)
    group = shared_group(store, base=base)
    column = [state for state in range(store.size) if owns[state] == owns[base]]
    lefts = carried_along(store.offices[0], owns, base, column)
    rights = carried_along(store.offices[1], others, base, group.shares)
    shares = [0] * store.size
    states = {}
    for own, row in lefts.items():
        for other, line in rights.items():
            for share, state in enumerate(group.shares):
                named = row[line[state]]
                shares[named] = share
                states[(own, share, other)] = named
    starts = [states[(own, 0, others[base])] for own in range(len(lefts))]
    left = {name: tuple([(owns[ends[start]], shares[ends[start]]) for start in starts])
            for name, ends, _ in store.offices[0]}
    answers = {name: tuple([told[start] for start in starts]) for name, _, told in store.offices[0]}
    starts = [states[(owns[base], 0, other)] for other in range(len(rights))]
    right = {name: tuple([(shares[ends[start]], others[ends[start]]) for start in starts])
             for name, ends, _ in store.offices[1]}
    for name, _, told in store.offices[1]:
        answers[name] = tuple([told[start] for start in starts])
    return Names(owns, others, tuple(shares), group.table, left, right, answers)


def carried_along(operations, view, base, states):
    """For each number of a view where some run that leads the base there leads some states, as dicts.

    No run leads two of these states to one, and each number is reached by some run.
    """
    rows = {view[base]: {state: state for state in states}}
    queue = [view[base]]
    at = 0
    while at < len(queue):
        row = rows[queue[at]]
        at += 1
        for _, ends, _ in operations:
            number = view[ends[row[base]]]
            if number not in rows:
                rows[number] = {state: ends[row[state]] for state in row}
                queue.append(number)
    return rows


def check_names(store, value):
    """Whether any value is names of the states of a store."""
    if not isinstance(value, Names) or len(store.offices) > 2:
        return False
    owns = homes(store, 1)
    others = homes(store, 0)
    owned = max(owns) + 1
    othered = max(others) + 1
    if not are_views(value, owns, others) or not is_group(value.table, store.size, owned * othered):
        return False
    many = len(value.table)
    if not are_below(value.shares, store.size, many):
        return False
    if len(set(list(zip(owns, value.shares, others)))) < store.size:
        return False
    if not are_factors(value.left, store.offices[0], owned, owned, many):
        return False
    if not are_factors(value.right, store.offices[1], othered, many, othered):
        return False
    if not are_told(value.answers, list(value.left), list(value.right), owned, othered):
        return False
    named = store_of(value)
    return named == store


def are_views(value, owns, others):
    """Whether the parts in names are these."""
    if not are_below(value.owns, len(owns), len(owns)) or not are_below(value.others, len(owns), len(owns)):
        return False
    return value.owns == owns and value.others == others


def is_group(table, size, parts):
    """Whether any value is a table such that so many pairs of parts have a state for each share."""
    if not isinstance(table, tuple) or len(table) * parts != size:
        return False
    try:
        check_table(table)
    except InvalidTable:
        return False
    return True


def has_keys(value, names):
    """Whether any value is a dict with just these names as keys, in order."""
    if not isinstance(value, dict) or len(value) != len(names):
        return False
    if first_unknown(list(value), {name: True for name in names}) is not None:
        return False
    return list(value) == names


def are_factors(value, operations, many, first, second):
    """Whether any value is a dict with so many pairs for each operation, of numbers below these two."""
    if not has_keys(value, [operation[0] for operation in operations]):
        return False
    for row in list(value.values()):
        if not isinstance(row, tuple) or len(row) != many:
            return False
        for pair in row:
            if not isinstance(pair, tuple) or len(pair) != 2:
                return False
            if not is_below(pair[0], first) or not is_below(pair[1], second):
                return False
    return True


def are_told(value, left, right, owned, othered):
    """Whether any value is a dict with an answer of each of these operations for each part of its office."""
    if not has_keys(value, left + right):
        return False
    if not all([are_below(value[name], owned, MOST_ANSWER + 1) for name in left]):
        return False
    return all([are_below(value[name], othered, MOST_ANSWER + 1) for name in right])


def name_of(names, state):
    """The own part, the share and the other part of a state."""
    return (names.owns[state], names.shares[state], names.others[state])


def state_of(names, name):
    """The state with this own part, share and other part."""
    return list(zip(names.owns, names.shares, names.others)).index(name)


def left_of(names, run, own):
    """The own part and the factor to which a run of office 0 leads from an own part."""
    factor = 0
    for name in run:
        own, further = names.left[name][own]
        factor = names.table[further][factor]
    return (own, factor)


def right_of(names, run, other):
    """The factor and the other part to which a run of office 1 leads from an other part."""
    factor = 0
    for name in run:
        further, other = names.right[name][other]
        factor = names.table[factor][further]
    return (factor, other)


def store_of(names):
    """The store whose states have these names."""
    triples = list(zip(names.owns, names.shares, names.others))
    states = {triple: state for state, triple in enumerate(triples)}
    left = []
    for name, row in names.left.items():
        moved = [(row[own][0], names.table[row[own][1]][share], other) for own, share, other in triples]
        told = [names.answers[name][own] for own in names.owns]
        left.append((name, tuple([states[triple] for triple in moved]), tuple(told)))
    right = []
    for name, row in names.right.items():
        moved = [(own, names.table[share][row[other][0]], row[other][1]) for own, share, other in triples]
        told = [names.answers[name][other] for other in names.others]
        right.append((name, tuple([states[triple] for triple in moved]), tuple(told)))
    return Store(len(triples), (tuple(left), tuple(right)))


def mirrored(names):
    """The names of the store with its offices exchanged that give each state the inverse of its share."""
    inverses = [row.index(0) for row in names.table]
    left = {}
    right = {}
    for name, row in names.right.items():
        left[name] = tuple([(other, inverses[factor]) for factor, other in row])
    for name, row in names.left.items():
        right[name] = tuple([(inverses[factor], own) for own, factor in row])
    answers = {name: names.answers[name] for name in list(left) + list(right)}
    shares = tuple([inverses[share] for share in names.shares])
    return Names(names.others, names.owns, shares, names.table, left, right, answers)
