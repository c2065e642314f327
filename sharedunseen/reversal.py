"""Whether each state can be reached from each, shown by runs or by a lot that no run leaves."""

from sharedunseen.beside import leaves
from sharedunseen.checks import chosen_operations, first_unknown, table_of
from sharedunseen.homes import closed_lot
from sharedunseen.kinds import is_lot
from sharedunseen.stores import operations_of
from sharedunseen.walks import first_steps, run_along


class Reversible:
    """Runs from state 0 to each state, and from each state to it."""

    def __init__(self, outward, homeward):
        self.outward = outward
        self.homeward = homeward


class OneWay:
    """A lot of states, not all, that no operation leaves."""

    def __init__(self, lot):
        self.lot = lot


def reversal(store):
    """The first shortest runs from state 0 and to it, or the first smallest closed lot."""
    lot = closed_lot(store)
    if lot is not None:
        return OneWay(lot)
    operations = chosen_operations(store, None)
    steps = first_steps(operations, 0)
    outward = [run_along(steps, state) for state in range(store.size)]
    homeward = [run_along(first_steps(operations, state), 0) for state in range(store.size)]
    return Reversible(tuple(outward), tuple(homeward))


def check_reversal(store, value):
    """Whether any value is runs to and from all states, or a closed lot that lacks some state."""
    if isinstance(value, Reversible):
        states = list(range(store.size))
        first = [0] * store.size
        return lead(store, first, value.outward, states) and lead(store, states, value.homeward, first)
    if isinstance(value, OneWay):
        if not is_lot(value.lot, store.size) or not 0 < len(value.lot) < store.size:
            return False
        return not leaves(store, value.lot)
    return False


def lead(store, starts, runs, goals):
    """Whether any value is a tuple with a run from each start to its goal."""
    if not isinstance(runs, tuple) or len(runs) != len(starts):
        return False
    table = table_of(operations_of(store))
    for state, run, goal in zip(starts, runs, goals):
        if not isinstance(run, tuple) or first_unknown(run, table) is not None:
            return False
        for name in run:
            state = table[name][1][state]
        if state != goal:
            return False
    return True
