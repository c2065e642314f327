"""Operations from which no run leads back, regions by themselves, and what a run merges."""

from sharedunseen.beside import part_of_operation
from sharedunseen.checks import check_name, check_office
from sharedunseen.errors import Refused
from sharedunseen.homes import home_order, homes, joint_homes, meeting
from sharedunseen.kinds import is_lot
from sharedunseen.runs import check_run, check_state, passed, run_ends
from sharedunseen.stores import with_operations


def falls(store, name):
    """The lot of the states that an operation leads out of their region."""
    check_name(store, name)
    view = joint_homes(store, None)
    ends = store.operation(name)[1]
    return tuple([state for state, end in enumerate(ends) if view[end] != view[state]])


def fall_places(store, state, run):
    """The lot of the indices of the operations in a run that fall where they are done."""
    states = passed(store, state, run)
    view = joint_homes(store, None)
    return tuple([place for place in range(len(run)) if view[states[place]] != view[states[place + 1]]])


def deepest(store, state, offices=None):
    """How often, at most, a run of some offices leads from one of their joint homes to another one."""
    check_state(store, state)
    view = joint_homes(store, offices)
    below = {number: [] for number in view}
    for low, high in home_order(store, offices):
        below[low].append(high)
    # A home has more homes below it than each of these has, so theirs are known before it.
    depths = {}
    for _, number in sorted([(len(below[number]), number) for number in below]):
        depths[number] = max([depths[further] + 1 for further in below[number]], default=0)
    return depths[view[state]]


def stopped(store, lot):
    """The store of the states of a lot alone, in which what would leave the lot stays."""
    if not is_lot(lot, store.size) or len(lot) == 0:
        raise Refused("lot")
    places = {state: place for place, state in enumerate(lot)}
    return with_operations(store, len(lot), lambda old: part_of_operation(old, lot, places))


def split_of(store, state, run, *, office=0):
    """The states of the cell of a state that a run of an office leads to one state, to one home, and all."""
    check_state(store, state)
    check_office(store, office)
    check_run(store, run, office=office)
    own = homes(store, office)
    ends = run_ends(store, run)
    cell = meeting(store, state, state, (office,))
    near = tuple([other for other in cell if own[ends[other]] == own[ends[state]]])
    merged = tuple([other for other in cell if ends[other] == ends[state]])
    return (merged, near, cell)
