"""Matches: the ways to number the states of a store so that it becomes another one."""

from sharedunseen.checks import check_number
from sharedunseen.errors import Refused
from sharedunseen.runs import reachable
from sharedunseen.stores import MOST_STATES, operations_of


def matches(one, other, *, most=200):
    """The first `most` orders with which `one` is renumbered to `other`, ascending."""
    check_number(most, MOST_STATES + 1, "most")
    if len(reachable(one, 0)) < one.size:
        raise Refused("reach")
    found = []
    if one.size == other.size and shape_of(one) == shape_of(other):
        for start in range(other.size):
            order = match_from(one, other, start)
            if order is not None and len(found) < most:
                found.append(order)
    return tuple(found)


def shape_of(store):
    """The names of the operations, office by office."""
    return [[operation[0] for operation in office] for office in store.offices]


def match_from(one, other, start):
    """The only match that gives the state 0 the number `start`, or None."""
    pairs = [(old[1], new[1]) for old, new in zip(operations_of(one), operations_of(other))]
    order = {0: start}
    queue = [0]
    at = 0
    while at < len(queue):
        state = queue[at]
        at += 1
        for old_ends, new_ends in pairs:
            there = old_ends[state]
            goal = new_ends[order[state]]
            if there not in order:
                order[there] = goal
                queue.append(there)
            elif order[there] != goal:
                return None
    numbers = [order[state] for state in range(one.size)]
    if len(set(numbers)) < one.size or not same_answers(one, other, numbers):
        return None
    return tuple(numbers)


def same_answers(one, other, order):
    """Whether operations answer at each state as the other ones do at its number."""
    for old, new in zip(operations_of(one), operations_of(other)):
        if [new[2][number] for number in order] != list(old[2]):
            return False
    return True
