"""Checks of arguments that several chapters share."""

from sharedunseen.errors import InvalidNumber, InvalidRun
from sharedunseen.kinds import is_below, is_lot
from sharedunseen.stores import operations_of


def check_office(store, office):
    """Raises unless any value is the number of an office."""
    if not is_below(office, len(store.offices)):
        raise InvalidNumber("office")


def check_number(value, end, word):
    """Raises unless any value, the argument called `word`, is a number below `end`."""
    if not is_below(value, end):
        raise InvalidNumber(word)


def check_lot(store, offices, word):
    """Raises unless any value, the argument called `word`, is a lot of numbers of offices."""
    if not is_lot(offices, len(store.offices)):
        raise InvalidNumber(word)


def check_name(store, name):
    """Raises unless any value is the name of an operation."""
    if store.operation(name) is None:
        raise InvalidRun(0)


def chosen_operations(store, offices):
    """The operations of a lot of offices, or of all for None, in the order of their names."""
    if offices is None:
        return sorted(operations_of(store))
    check_lot(store, offices, "offices")
    return sorted([operation for office in offices for operation in store.offices[office]])


def check_run_of(store, run, offices):
    """Raises unless any value is a run of some offices, of all for None."""
    at = run_fault(store, run, offices)
    if at is not None:
        raise InvalidRun(at)


def run_fault(store, run, offices):
    """The first index of any value that is no name of an operation of some offices, -1 for no tuple, or None."""
    if not isinstance(run, tuple):
        return -1
    return first_unknown(run, table_of(chosen_operations(store, offices)))


def is_run_of(store, run, offices):
    """Whether any value is a run of some offices, of all for None."""
    return run_fault(store, run, offices) is None


def table_of(operations):
    """A dict of operations by their names."""
    return {operation[0]: operation for operation in operations}


def first_unknown(items, table):
    """The first index in a tuple whose item is no key of a dict of names, or None."""
    for at, item in enumerate(items):
        if not isinstance(item, str) or item not in table:
            return at
    return None


def has_names(store, value):
    """Whether any value is a dict whose keys are just the names of the operations of a store."""
    if not isinstance(value, dict) or len(value) != len(store.names()):
        return False
    return first_unknown(list(value), table_of(operations_of(store))) is None
