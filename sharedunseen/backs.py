"""Runs that lead back, or where another run would have led."""

from math import lcm

from sharedunseen.checks import check_name, check_office, chosen_operations
from sharedunseen.errors import InvalidState, Refused
from sharedunseen.kinds import is_lot, is_order
from sharedunseen.runs import after, check_run, check_state, shortest_run
from sharedunseen.walks import run_along

MOST_TUPLES = 1000


def amend_run(store, office, state, done, wished):
    """The first of the shortest runs of an office from where `done` led to where `wished` leads."""
    check_office(store, office)
    check_state(store, state)
    check_run(store, done, office=office)
    check_run(store, wished, office=office)
    return shortest_run(store, after(store, state, done), after(store, state, wished), (office,))


def back_times(store, name):
    """How many times more an operation is done until each state comes back, or None."""
    check_name(store, name)
    ends = store.operation(name)[1]
    if not is_order(ends, store.size):
        return None
    times = 1
    for state in range(store.size):
        times = lcm(times, ring_length(ends, state))
    return times - 1


def ring_length(ends, state):
    """How many times the ends that lead no two states to one lead a state until it comes back."""
    length = 1
    here = ends[state]
    while here != state:
        here = ends[here]
        length += 1
    return length


def common_back(store, name, states):
    """The first of the shortest runs that lead each state of a lot back from behind an operation."""
    check_name(store, name)
    if not is_lot(states, store.size):
        raise InvalidState()
    ends = store.operation(name)[1]
    start = tuple([ends[state] for state in states])
    steps = tuple_steps(chosen_operations(store, (store.office_of(name),)), start, MOST_TUPLES)
    return run_along(steps, states) if states in steps else None


def tuple_steps(operations, start, most):
    """As `first_steps`, for a tuple of states that are led together, to `most` tuples at most."""
    steps = {start: None}
    queue = [start]
    at = 0
    while at < len(queue):
        here = queue[at]
        at += 1
        for name, ends, _ in operations:
            there = tuple([ends[state] for state in here])
            if there not in steps:
                steps[there] = (here, name)
                queue.append(there)
        if len(queue) > most:
            raise Refused("wide")
    return steps
