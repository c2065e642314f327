"""The group that an office and the others multiply from the two sides."""

from sharedunseen.checks import check_number, check_office, chosen_operations
from sharedunseen.homes import homes, joint_homes, need_unseen_reversible, other_offices
from sharedunseen.partings import numbered
from sharedunseen.walks import first_steps


class Shared:
    """A table of a group, and the states that stand for its shares."""

    def __init__(self, table, shares):
        self.table = table
        self.shares = shares


def cells(store, *, office=0):
    """The view in which states have equal numbers if they are in one cell."""
    own, rest = both_homes(store, office)
    return numbered(list(zip(own, rest)))


def both_homes(store, office):
    """The views of the homes of an office and of the joint homes of the others; raises where cells are refused."""
    check_office(store, office)
    need_unseen_reversible(store)
    return (homes(store, office), joint_homes(store, other_offices(store, (office,))))


def measure(store, *, office=0):
    """How many joint homes the others have, how many states a cell has, how many homes the office has."""
    own, rest = both_homes(store, office)
    many = len([state for state, pair in enumerate(zip(own, rest)) if pair == (own[0], rest[0])])
    return (max(rest) + 1, many, max(own) + 1)


def shared_group(store, *, office=0, base=0):
    """The table of the products of the states of the cell of `base`."""
    check_office(store, office)
    check_number(base, store.size, "base")
    own, rest = both_homes(store, office)
    shares = [state for state in range(store.size)
              if state != base and own[state] == own[base] and rest[state] == rest[base]]
    shares.insert(0, base)
    return Shared(product_table(chosen_operations(store, (office,)), shares), tuple(shares))


def product_table(operations, shares):
    """The table whose row i tells where a run that leads the first of some states to that with number i leads each."""
    rows = image_rows(operations, shares)
    places = {state: place for place, state in enumerate(shares)}
    return tuple([tuple([places[state] for state in rows[share]]) for share in shares])


def image_rows(operations, states):
    """For each state to which runs lead the first of some states, where such a run leads each of them."""
    table = {operation[0]: operation[1] for operation in operations}
    rows = {}
    for state, step in first_steps(operations, states[0]).items():
        if step is None:
            rows[state] = tuple(states)
        else:
            before, name = step
            ends = table[name]
            rows[state] = tuple([ends[image] for image in rows[before]])
    return rows
