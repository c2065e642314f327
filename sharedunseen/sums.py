"""Sums: stores in which all operations add shares, and the stores of lone offices."""

from sharedunseen.backs import tuple_steps
from sharedunseen.checks import check_number, has_names, is_run_of
from sharedunseen.clashes import clash_states
from sharedunseen.errors import InvalidTable, Refused
from sharedunseen.groups import check_table, is_commutative
from sharedunseen.homes import homes, is_reversible, need_unseen_reversible
from sharedunseen.kinds import are_below, is_below
from sharedunseen.many import core_rows, core_table, core_view
from sharedunseen.names import copied
from sharedunseen.runs import run_ends
from sharedunseen.shared import shared_group
from sharedunseen.stores import operations_of
from sharedunseen.walks import run_along


class Sum:
    """The cores of a store, a share for each state, and what each operation adds to the shares of each core."""

    def __init__(self, parts, shares, table, adds):
        self.parts = parts
        self.shares = shares
        self.table = table
        self.adds = copied(adds)


class Bent:
    """A run that leads a state to itself, but another state of its core to a further one."""

    def __init__(self, run, state, other):
        self.run = run
        self.state = state
        self.other = other


def sum_of(store):
    """Some sum of a store, or a run that shows that there is none."""
    need_unseen_reversible(store)
    core = core_view(store)
    group = core_table(store, 0)
    rows = core_rows(store, core, group.shares)
    shares = [0] * store.size
    for row in list(rows.values()):
        for share, state in enumerate(row):
            shares[state] = share
    adds = {}
    for name, ends, _ in operations_of(store):
        pairs = []
        for number in range(len(rows)):
            images = [shares[ends[state]] for state in rows[number]]
            unlike = [share for share, image in enumerate(images) if image != group.table[share][images[0]]]
            if unlike:
                return bent_by(store, 0, group.shares[unlike[0]])
            pairs.append((core[ends[rows[number][0]]], images[0]))
        adds[name] = tuple(pairs)
    return Sum(core, tuple(shares), group.table, adds)


def bent_by(store, base, other):
    """A shortest run that leads a base to itself, but another state of its core to a further one."""
    steps = tuple_steps(operations_of(store), (base, other), store.size * store.size)
    goal = [pair for pair in steps if pair[0] == base and pair[1] != other][0]
    return Bent(run_along(steps, goal), base, other)


def check_sum(store, value):
    """Whether any value is a sum of a store, or a run that shows that there is none."""
    if clash_states(store) or not is_reversible(store):
        return False
    if isinstance(value, Bent):
        return is_bent(store, value)
    return isinstance(value, Sum) and is_sum(store, value)


def is_bent(store, value):
    """Whether a run leads a state to itself, but another state of its core to a further one."""
    if not is_run_of(store, value.run, None) or not are_below((value.state, value.other), 2, store.size):
        return False
    core = core_view(store)
    ends = run_ends(store, value.run)
    if core[value.state] != core[value.other]:
        return False
    return ends[value.state] == value.state and ends[value.other] != value.other


def is_sum(store, value):
    """Whether the attributes of a sum are of the kinds that are asked, and tell what the operations do."""
    core = core_view(store)
    many = core.count(0)
    if not are_below(value.parts, store.size, store.size) or value.parts != core:
        return False
    if not is_sum_table(value.table, many) or not are_below(value.shares, store.size, many):
        return False
    if len(set(list(zip(core, value.shares)))) < store.size or not has_names(store, value.adds):
        return False
    for name, ends, _ in operations_of(store):
        row = value.adds[name]
        if not isinstance(row, tuple) or len(row) != max(core) + 1:
            return False
        if not all([is_addition(pair, max(core) + 1, many) for pair in row]):
            return False
        for state, end in enumerate(ends):
            part, share = row[core[state]]
            if core[end] != part or value.shares[end] != value.table[value.shares[state]][share]:
                return False
    return True


def is_sum_table(value, many):
    """Whether any value is a commutative table of so many shares."""
    if not isinstance(value, tuple) or len(value) != many:
        return False
    try:
        check_table(value)
    except InvalidTable:
        return False
    return is_commutative(value)


def is_addition(value, parts, many):
    """Whether any value is a pair of the number of a core and a share."""
    return isinstance(value, tuple) and len(value) == 2 and is_below(value[0], parts) and is_below(value[1], many)


def lone_offices(store):
    """The lot of the offices whose runs alone lead each state to each."""
    return tuple([office for office in range(len(store.offices)) if max(homes(store, office)) == 0])


def multipliers(store, *, base=0):
    """For each operation the share of the state to which it leads `base`, in the group of the first lone office."""
    check_number(base, store.size, "base")
    need_unseen_reversible(store)
    offices = lone_offices(store)
    if len(offices) < 2:
        raise Refused("alone")
    shares = shared_group(store, office=offices[0], base=base).shares
    return {name: shares.index(store.operation(name)[1][base]) for name in store.names()}
