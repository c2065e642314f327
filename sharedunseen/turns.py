"""Turns: how runs of three and more offices turn the shares of a core round."""

from sharedunseen.checks import check_number
from sharedunseen.errors import InvalidNumber, Refused
from sharedunseen.groups import check_shares, is_commutative, is_matching
from sharedunseen.many import MANY_OFFICES, core_rows, core_table, core_view, need_many_offices
from sharedunseen.runs import run_ends
from sharedunseen.stores import MOST_OPERATIONS, MOST_STATES, Store, operations_of

MOST_MANY = 8
LETTERS = "abcdefghijklmnopqrstuvwxyz"


def turn_by(table, images):
    """The turn of what leads each share of a core to these shares."""
    back = table[images[0]].index(0)
    return tuple([table[image][back] for image in images])


def turn_of(store, run, *, base=0):
    """The turn of a run, None if it leads `base` out of its core."""
    check_number(base, store.size, "base")
    need_many_offices(store)
    ends = run_ends(store, run)
    group = core_table(store, base)
    if ends[base] not in group.shares:
        return None
    return turn_by(group.table, [group.shares.index(ends[state]) for state in group.shares])


def turns(store, *, base=0):
    """The turns of all runs that lead `base` into its core, ascending."""
    check_number(base, store.size, "base")
    need_many_offices(store)
    group = core_table(store, base)
    core = core_view(store)
    rows = core_rows(store, core, group.shares)
    places = {}
    for row in list(rows.values()):
        for place, state in enumerate(row):
            places[state] = place
    # Say that the ways by which the rows were found turn nothing. Then a run turns as its operations do, one
    # behind another; and as there are finitely many turns, what single operations turn comes of whole runs, too.
    found = {}
    for operation in operations_of(store):
        for row in list(rows.values()):
            found[turn_by(group.table, [places[operation[1][state]] for state in row])] = True
    return turns_generated(list(found), len(group.shares), MOST_STATES)


def turns_generated(matchings, size, most):
    """The matchings that come of any number of some, one behind another, ascending; None if there are more."""
    still = tuple(range(size))
    found = {still: True}
    queue = [still]
    at = 0
    while at < len(queue):
        here = queue[at]
        at += 1
        for matching in matchings:
            further = followed(here, matching)
            if further not in found:
                found[further] = True
                queue.append(further)
        if len(queue) > most:
            return None
    return tuple(sorted(queue))


def followed(first, second):
    """One matching followed by another one."""
    return tuple([second[share] for share in first])


def turning_store(table, shares, matchings, *, many=3):
    """The store of so many offices whose core has a table, and whose turns are what some matchings generate."""
    if not is_commutative(table):
        raise Refused("table")
    check_shares(table, shares)
    if not isinstance(matchings, tuple) or not all([is_matching(table, table, value) for value in matchings]):
        raise Refused("matchings")
    check_number(many, MOST_MANY + 1, "many")
    if many < MANY_OFFICES:
        raise InvalidNumber("many")
    states = turning_states(matchings, len(table), many)
    if states is None:
        raise Refused("size")
    if many * (len(shares) + len(matchings)) > MOST_OPERATIONS:
        raise Refused("operations")
    numbers = {state: number for number, state in enumerate(states)}
    offices = []
    for office in range(many):
        moves = [("s" + LETTERS[place], [with_share(table, state, office, share) for state in states])
                 for place, share in enumerate(shares)]
        moves.extend([("t" + LETTERS[place], [with_turn(state, office, matching) for state in states])
                      for place, matching in enumerate(matchings)])
        offices.append(tuple([(LETTERS[office] + name, tuple([numbers[state] for state in goals]), (0,) * len(states))
                              for name, goals in moves]))
    return Store(len(states), tuple(offices))


def turning_states(matchings, size, many):
    """The states of a turning store: a turn for each office but the first one, and a share. None if they are too many.

    Turns stand in the order of their numbers, so the states do, too.
    """
    group = turns_generated(matchings, size, MOST_STATES)
    if group is None:
        return None
    states = [()]
    for _ in range(many - 1):
        states = [state + (turn,) for state in states for turn in group]
        if len(states) * size > MOST_STATES:
            return None
    return [state + (share,) for state in states for share in range(size)]


def with_share(table, state, office, share):
    """The state to which the operation of an office for a share leads a state."""
    factor = share if office == 0 else state[office - 1].index(share)
    return state[:-1] + (table[state[-1]][factor],)


def with_turn(state, office, matching):
    """The state to which the operation of an office for a matching leads a state."""
    if office > 0:
        return state[:office - 1] + (followed(state[office - 1], matching),) + state[office:]
    back = tuple([matching.index(share) for share in range(len(matching))])
    return tuple([followed(back, turn) for turn in state[:-1]]) + (matching[state[-1]],)
