"""Offices to which all is given that may be given without a clash."""

from sharedunseen.backs import tuple_steps
from sharedunseen.cards import LETTERS, silent
from sharedunseen.checks import check_number, check_office, chosen_operations
from sharedunseen.errors import InvalidNumber, Refused
from sharedunseen.groups import generated
from sharedunseen.homes import joint_homes, need_unseen_reversible, other_offices
from sharedunseen.kinds import is_order
from sharedunseen.letin import count_given, goals_of, least_states, moved_alike
from sharedunseen.shared import Shared
from sharedunseen.stores import MOST_OPERATIONS, Store
from sharedunseen.steady import other_operations

MOST_GIVEN = 10000
FURTHER_OPERATIONS = 3


def free_group(store, *, office=0, base=0):
    """The table of the states to which ends that may be given lead `base` within its joint home of the others."""
    check_office(store, office)
    check_number(base, store.size, "base")
    need_unseen_reversible(store)
    return free_group_at(store, office, base)


def free_group_at(store, office, base):
    """As `free_group`, for a store that is unseen and reversible."""
    view = joint_homes(store, other_offices(store, (office,)))
    shares = [goal for goal in goals_of(store, office, base) if goal != base and view[goal] == view[base]]
    shares.insert(0, base)
    places = {state: place for place, state in enumerate(shares)}
    table = []
    for share in shares:
        moved = moved_alike(other_operations(store, office), base, share)
        table.append(tuple([places[moved[state]] for state in shares]))
    return Shared(tuple(table), tuple(shares))


def is_full(store, office):
    """Whether all ends that may be given to an office are those of its runs."""
    check_office(store, office)
    need_unseen_reversible(store)
    many = count_given(store, office)
    if many > MOST_GIVEN:
        raise Refused("wide")
    # The ends of runs may all be given, so they are told by where they lead the least states, too.
    leasts = tuple(least_states(store, office))
    return len(tuple_steps(chosen_operations(store, (office,)), leasts, MOST_GIVEN)) == many


def filled(store, office):
    """Some store in which further operations of an office have made it full."""
    check_office(store, office)
    need_unseen_reversible(store)
    leasts = least_states(store, office)
    group = free_group_at(store, office, leasts[0])
    most = FURTHER_OPERATIONS + len(group.table).bit_length() - 1
    if len(store.names()) + most > MOST_OPERATIONS:
        raise Refused("many")
    names = free_names(store, most)
    fresh = [silent(name, ends) for name, ends in zip(names, further_ends(store, office, leasts, group))]
    rows = list(store.offices)
    rows[office] = rows[office] + tuple(fresh)
    return Store(store.size, tuple(rows))


def free_names(store, many):
    """So many names that no operation of a store has."""
    words = list(LETTERS) + [first + second for first in LETTERS for second in LETTERS]
    return [word for word in words if store.office_of(word) is None][:many]


def further_ends(store, office, leasts, group):
    """Ends that may be given and of which all others come.

    A joint home of the others is led by such ends to another one, each in one way but for
    the free group. So it is enough to exchange two homes, to lead all round, to lead one
    onto another one, and to lead one into itself by shares that generate the group.
    """
    operations = other_operations(store, office)
    goals = goals_of(store, office, leasts[0])
    view = joint_homes(store, other_offices(store, (office,)))
    many = len(leasts)
    firsts = [[goal for goal in goals if view[goal] == number][0] for number in range(many)]
    maps = [moved_alike(operations, leasts[0], goal) for goal in firsts]
    orders = []
    if many > 1:
        orders.append([0, 0] + list(range(2, many)))
        orders.append([1, 0] + list(range(2, many)))
    if many > 2:
        orders.append(list(range(1, many)) + [0])
    found = []
    for order in orders:
        found.append(carried_ends(store.size, maps, [maps[number] for number in order]))
    for share in generating_shares(group.table):
        moved = moved_alike(operations, leasts[0], group.shares[share])
        found.append(carried_ends(store.size, maps, [moved] + maps[1:]))
    return found


def carried_ends(size, maps, goals):
    """The ends that lead each state to which a map leads a state to where the goal in its place leads it."""
    ends = [0] * size
    for old, new in zip(maps, goals):
        for state, image in old.items():
            ends[image] = new[state]
    return tuple(ends)


def generating_shares(table):
    """Shares that generate all shares, each of which no earlier ones generate."""
    chosen = ()
    found = generated(table, chosen)
    for share in range(len(table)):
        if share not in found:
            chosen = chosen + (share,)
            found = generated(table, chosen)
    return chosen


def settled(store, order):
    """The store in which one office after the other is filled, in some order."""
    if not is_order(order, len(store.offices)):
        raise InvalidNumber("order")
    for office in order:
        store = filled(store, office)
    return store
