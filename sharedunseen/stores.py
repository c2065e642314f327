"""Stores: states, and the operations of several offices on them."""

from sharedunseen.errors import InvalidStore, Refused
from sharedunseen.kinds import MOST_ANSWER, are_below, is_below, is_name, is_order

MOST_STATES = 200
LEAST_OFFICES = 2
MOST_OFFICES = 8
MOST_OPERATIONS = 40


class Store:
    """A store of `size` states that the operations of its `offices` change."""

    def __init__(self, size, offices):
        at = store_fault(size, offices)
        if at is not None:
            raise InvalidStore(at)
        self.size = size
        self.offices = offices

    def __eq__(self, other):
        return isinstance(other, Store) and self.size == other.size and self.offices == other.offices

    def names(self):
        """The names of all operations, ascending."""
        return tuple(sorted([operation[0] for operation in operations_of(self)]))

    def office_of(self, name):
        """The number of the office that has the operation of this name, or None."""
        if isinstance(name, str):
            for number, office in enumerate(self.offices):
                for operation in office:
                    if operation[0] == name:
                        return number
        return None

    def operation(self, name):
        """The operation of this name, or None."""
        if isinstance(name, str):
            for operation in operations_of(self):
                if operation[0] == name:
                    return operation
        return None


def operations_of(store):
    """A list of all operations, office by office."""
    return [operation for office in store.offices for operation in office]


def is_operation(value, size):
    """Whether any value is an operation on so many states."""
    if not isinstance(value, tuple) or len(value) != 3:
        return False
    name, ends, answers = value
    return is_name(name) and are_below(ends, size, size) and are_below(answers, size, MOST_ANSWER + 1)


def store_fault(size, offices):
    """The `at` with which no store can be made of any two values, or None."""
    if not is_below(size, MOST_STATES + 1) or size == 0 or not isinstance(offices, tuple):
        return -1
    taken = {}
    for at, office in enumerate(offices):
        if not isinstance(office, tuple):
            return at
        for operation in office:
            if not is_operation(operation, size) or operation[0] in taken:
                return at
            taken[operation[0]] = True
    if not LEAST_OFFICES <= len(offices) <= MOST_OFFICES or len(taken) > MOST_OPERATIONS:
        return len(offices)
    return None


def with_operations(store, size, change):
    """The store of so many states in which `change` has made another one of each operation."""
    offices = [tuple([change(operation) for operation in office]) for office in store.offices]
    return Store(size, tuple(offices))


def renamed(store, names):
    """The store in which each operation has its value in the dict `names` as its name."""
    if not isinstance(names, dict):
        raise Refused("names")
    fresh = {}
    taken = {}
    for name in store.names():
        if name not in names or not is_name(names[name]) or names[name] in taken:
            raise Refused("names")
        fresh[name] = names[name]
        taken[names[name]] = True
    return with_operations(store, store.size, lambda old: (fresh[old[0]], old[1], old[2]))


def renumbered(store, order):
    """The store in which each state s has the number `order[s]`."""
    if not is_order(order, store.size):
        raise Refused("order")
    return with_operations(store, store.size, lambda old: renumbered_operation(old, order))


def renumbered_operation(operation, order):
    """The operation on the states with their new numbers."""
    name, ends, answers = operation
    new_ends = list(ends)
    new_answers = list(answers)
    for state, number in enumerate(order):
        new_ends[number] = order[ends[state]]
        new_answers[number] = answers[state]
    return (name, tuple(new_ends), tuple(new_answers))
