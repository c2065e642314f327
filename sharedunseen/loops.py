"""Runs that lead a state into its cell, and what they tell of who did them."""

from sharedunseen.checks import check_number, check_office, chosen_operations, is_run_of
from sharedunseen.errors import Refused
from sharedunseen.groups import opposite
from sharedunseen.homes import other_offices
from sharedunseen.kinds import is_below
from sharedunseen.partings import operation_over
from sharedunseen.runs import after, check_run, shortest_run
from sharedunseen.shared import both_homes, shared_group
from sharedunseen.walks import first_steps, run_along


def share_of(store, run, *, office=0, base=0):
    """The share to which a run of an office or of the others leads `base`, None outside of its cell."""
    group = shared_group(store, office=office, base=base)
    check_run(store, run)
    if not is_run_of(store, run, (office,)) and not is_run_of(store, run, other_offices(store, (office,))):
        raise Refused("mixed")
    end = after(store, base, run)
    return group.shares.index(end) if end in group.shares else None


def loops(store, *, office=0, base=0):
    """Some runs of an office that lead `base` into its cell and whose shares generate all shares."""
    check_office(store, office)
    check_number(base, store.size, "base")
    view = both_homes(store, office)[1]
    operations = [operation_over(operation, view) for operation in chosen_operations(store, (office,))]
    steps = first_steps(operations, view[base])
    backs = {number: run_along(first_steps(operations, number), view[base]) for number in steps}
    # The factors of the ways out may be taken as 0. Each way back, from where it leaves them first, is the
    # end of one of the runs below. So these tell the factors of the ways back, and with them all factors.
    found = []
    for number in steps:
        for name, ends, _ in operations:
            if steps[ends[number]] != (number, name):
                found.append(run_along(steps, number) + (name,) + backs[ends[number]])
    return tuple(found)


def unlike_runs(store, *, office=0, base=0):
    """Some runs of an office and of the others that lead `base` to one state, and another state to two; or None."""
    group = shared_group(store, office=office, base=base)
    opposed = opposite(group.table)
    for share, row in enumerate(group.table):
        if row != opposed[share]:
            goal = group.shares[share]
            further = [place for place, product in enumerate(row) if product != opposed[share][place]][0]
            run = shortest_run(store, base, goal, (office,))
            other = shortest_run(store, base, goal, other_offices(store, (office,)))
            return (run, other, group.shares[further])
    return None


def check_unlike(store, value, *, office=0, base=0):
    """Whether any value is two such runs and a state of the cell that they lead to two states."""
    group = shared_group(store, office=office, base=base)
    if not isinstance(value, tuple) or len(value) != 3:
        return False
    run, other, state = value
    if not is_run_of(store, run, (office,)) or not is_run_of(store, other, other_offices(store, (office,))):
        return False
    if not is_below(state, store.size) or state not in group.shares:
        return False
    if after(store, base, run) != after(store, base, other):
        return False
    return after(store, state, run) != after(store, state, other)
