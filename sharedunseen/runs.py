"""Runs: where they lead, what they answer, and which are the shortest."""

from sharedunseen.checks import check_number, check_office, check_run_of, chosen_operations, table_of
from sharedunseen.errors import InvalidState
from sharedunseen.kinds import is_below
from sharedunseen.stores import operations_of
from sharedunseen.walks import first_steps, run_along, step_counts

MOST_LENGTH = 500


def check_state(store, value):
    """Raises unless any value is a state of the store."""
    if not is_below(value, store.size):
        raise InvalidState()


def check_run(store, run, *, office=None):
    """Raises unless any value is a run of the store, or of one office of it."""
    offices = None
    if office is not None:
        check_office(store, office)
        offices = (office,)
    check_run_of(store, run, offices)


def own_run(store, run, office):
    """The operations of an office in a run."""
    check_run(store, run)
    check_office(store, office)
    own = table_of(store.offices[office])
    return tuple([name for name in run if name in own])


def own_runs(store, run):
    """The own run of each office."""
    return tuple([own_run(store, run, office) for office in range(len(store.offices))])


def after(store, state, run):
    """The state to which a run leads a state."""
    return passed(store, state, run)[-1]


def passed(store, state, run):
    """The states through which a run leads, from the first to the last."""
    check_state(store, state)
    check_run(store, run)
    table = table_of(operations_of(store))
    states = [state]
    for name in run:
        states.append(table[name][1][states[-1]])
    return tuple(states)


def answers_of(store, state, run):
    """The answers that the operations of a run give."""
    states = passed(store, state, run)
    table = table_of(operations_of(store))
    return tuple([table[name][2][here] for name, here in zip(run, states)])


def run_ends(store, run):
    """For each state where a run leads it."""
    check_run(store, run)
    table = table_of(operations_of(store))
    states = list(range(store.size))
    for name in run:
        ends = table[name][1]
        states = [ends[state] for state in states]
    return tuple(states)


def reachable(store, state, offices=None):
    """The lot of the states to which runs of some offices lead a state."""
    check_state(store, state)
    return tuple(sorted(list(first_steps(chosen_operations(store, offices), state))))


def distances(store, state, offices=None):
    """For each state the length of the shortest runs of some offices to it, or None."""
    check_state(store, state)
    counts = step_counts(first_steps(chosen_operations(store, offices), state))
    return tuple([counts.get(goal) for goal in range(store.size)])


def shortest_run(store, state, goal, offices=None):
    """The first of the shortest runs of some offices from a state to another one, or None."""
    check_state(store, state)
    check_state(store, goal)
    steps = first_steps(chosen_operations(store, offices), state)
    return run_along(steps, goal) if goal in steps else None


def count_runs(store, state, goal, length, offices=None):
    """How many runs of some offices with so many operations lead from a state to another one."""
    check_state(store, state)
    check_state(store, goal)
    check_number(length, MOST_LENGTH + 1, "length")
    moves = count_moves(chosen_operations(store, offices), store.size)
    counts = [0] * store.size
    counts[state] = 1
    for _ in range(length):
        fresh = [0] * store.size
        for here, many in enumerate(counts):
            if many > 0:
                for there, ways in moves[here]:
                    fresh[there] += many * ways
        counts = fresh
    return counts[goal]


def count_moves(operations, size):
    """For each state a list of pairs: a state, and how many operations lead to it."""
    moves = []
    for state in range(size):
        ways = {}
        for operation in operations:
            end = operation[1][state]
            ways[end] = ways.get(end, 0) + 1
        moves.append(list(ways.items()))
    return moves
