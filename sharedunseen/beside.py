"""Stores side by side, and parts of stores."""

from sharedunseen.errors import Refused
from sharedunseen.kinds import is_lot
from sharedunseen.stores import MOST_OPERATIONS, MOST_STATES, Store, operations_of, with_operations


def side_by_side(one, other):
    """The store whose states are the pairs of a state of each of two stores."""
    names = one.names() + other.names()
    if len(set(names)) < len(names):
        raise Refused("names")
    if one.size * other.size > MOST_STATES:
        raise Refused("size")
    if len(names) > MOST_OPERATIONS:
        raise Refused("operations")
    offices = []
    for number in range(max(len(one.offices), len(other.offices))):
        first = [spread_first(operation, other.size) for operation in office_at(one, number)]
        second = [spread_second(operation, one.size) for operation in office_at(other, number)]
        offices.append(tuple(first + second))
    return Store(one.size * other.size, tuple(offices))


def office_at(store, number):
    """The office with a number, an empty one if there is none."""
    return store.offices[number] if number < len(store.offices) else ()


def spread_first(operation, width):
    """The operation on pairs of a state that it changes and one of `width` others."""
    name, ends, answers = operation
    new_ends = [end * width + other for end in ends for other in range(width)]
    new_answers = [answer for answer in answers for _ in range(width)]
    return (name, tuple(new_ends), tuple(new_answers))


def spread_second(operation, height):
    """The operation on pairs of one of `height` others and a state that it changes."""
    name, ends, answers = operation
    new_ends = [other * len(ends) + end for other in range(height) for end in ends]
    return (name, tuple(new_ends), answers * height)


def part_of(store, lot):
    """The store of the states of a lot alone."""
    if not is_lot(lot, store.size) or len(lot) == 0:
        raise Refused("lot")
    if leaves(store, lot):
        raise Refused("open")
    places = {state: place for place, state in enumerate(lot)}
    return with_operations(store, len(lot), lambda old: part_of_operation(old, lot, places))


def leaves(store, lot):
    """Whether some operation leads from a state of a lot out of it."""
    inside = {state: True for state in lot}
    for operation in operations_of(store):
        if [state for state in lot if operation[1][state] not in inside]:
            return True
    return False


def part_of_operation(operation, lot, places):
    """The operation on the states of a lot, which have these places; it stays where it would leave the lot."""
    name, ends, answers = operation
    new_ends = tuple([places.get(ends[state], places[state]) for state in lot])
    return (name, new_ends, tuple([answers[state] for state in lot]))
