"""Runs that take operations and runs back."""

from sharedunseen.checks import first_unknown, table_of
from sharedunseen.runs import after, own_run, own_runs, shortest_run


def undo_run(store, state, name):
    """The first of the shortest runs of the operation's own office that lead back behind it, or None."""
    return shortest_run(store, store.operation(name)[1][state], state, (store.office_of(name),))


def is_undo(store, state, name, value):
    """Whether any value is a run of the operation's own office that leads back behind it."""
    own = table_of(store.offices[store.office_of(name)])
    if not isinstance(value, tuple) or first_unknown(value, own) is not None:
        return False
    return after(store, store.operation(name)[1][state], value) == state


def undo_lengths(store, name):
    """For each state how many operations take an operation back, or None."""
    runs = [undo_run(store, state, name) for state in range(store.size)]
    return tuple([None if run is None else len(run) for run in runs])


def undoers(store, state, name):
    """The lot of the offices of which runs alone lead back behind an operation."""
    end = store.operation(name)[1][state]
    offices = range(len(store.offices))
    return tuple([office for office in offices if shortest_run(store, end, state, (office,)) is not None])


def round_times(store, state, run):
    """How many times a run must be done, at least once, to lead a state to itself, or None."""
    here = after(store, state, run)
    times = 1
    while here != state and times < store.size:
        here = after(store, here, run)
        times += 1
    return times if here == state else None


def powers_undo(store, state, name):
    """An operation with the own part of a run that leads back, and how often they lead back; or None."""
    back = shortest_run(store, store.operation(name)[1][state], state)
    if back is None:
        return None
    run = (name,) + own_run(store, back, store.office_of(name))
    times = round_times(store, state, run)
    return None if times is None else (run, times)


def undo_parts(store, state, run):
    """For each office the first of its shortest runs that take back its part of a run, or None."""
    backs = []
    for office, own in enumerate(own_runs(store, run)):
        backs.append(shortest_run(store, after(store, state, own), state, (office,)))
    return None if None in backs else tuple(backs)
