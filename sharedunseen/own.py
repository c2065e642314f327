"""What only one office changes, what answers tell of the states, and stores over a view."""

from sharedunseen.checks import check_office, chosen_operations
from sharedunseen.errors import Refused
from sharedunseen.homes import other_offices
from sharedunseen.partings import is_carried_by, numbered, operation_over
from sharedunseen.runs import check_state
from sharedunseen.stores import Store
from sharedunseen.views import blind_view, check_view
from sharedunseen.walks import run_along


def own_view(store, office):
    """The finest view that is blind to the others of an office."""
    check_office(store, office)
    return blind_view(store, other_offices(store, (office,)))


def is_carried(store, view, offices=None):
    """Whether each operation of some offices leads states with equal numbers to states with equal numbers."""
    check_view(store, view)
    return all([is_carried_by([view[end] for end in operation[1]], view)
                for operation in chosen_operations(store, offices)])


def is_answered(operations, view):
    """Whether some operations give equal answers at states with equal numbers."""
    return all([is_carried_by(operation[2], view) for operation in operations])


def least_view(store, offices=None):
    """The view in which states have equal numbers if each run of some offices gives the same answers from both."""
    operations = chosen_operations(store, offices)
    states = range(store.size)
    view = numbered([tuple([operation[2][state] for operation in operations]) for state in states])
    parts = 0
    while parts < max(view) + 1:
        parts = max(view) + 1
        view = numbered([(view[state],) + tuple([view[operation[1][state]] for operation in operations])
                         for state in states])
    return view


def telling_run(store, one, other, offices=None):
    """The first of the shortest runs of some offices that give other answers from `one` than from `other`, or None."""
    check_state(store, one)
    check_state(store, other)
    operations = chosen_operations(store, offices)
    steps = {(one, other): None}
    queue = [(one, other)]
    at = 0
    while at < len(queue):
        first, second = queue[at]
        at += 1
        for name, _, answers in operations:
            if answers[first] != answers[second]:
                return run_along(steps, (first, second)) + (name,)
        for name, ends, _ in operations:
            pair = (ends[first], ends[second])
            if pair not in steps:
                steps[pair] = ((first, second), name)
                queue.append(pair)
    return None


def seen_store(store, view, offices=None):
    """The store of the numbers of a view, which the operations of some offices lead as they lead states."""
    if not is_carried(store, view, offices) or not is_answered(chosen_operations(store, offices), view):
        raise Refused("view")
    rows = []
    for office, row in enumerate(store.offices):
        known = offices is None or office in offices
        rows.append(tuple([operation_over(operation, view) for operation in row]) if known else ())
    return Store(max(view) + 1, tuple(rows))


def own_store(store, office):
    """The store of the numbers of the own view of an office, with its operations alone."""
    return seen_store(store, own_view(store, office), (office,))


def least_store(store, offices=None):
    """The store of the numbers of the least view of some offices, with their operations alone."""
    return seen_store(store, least_view(store, offices), offices)
