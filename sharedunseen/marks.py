"""Marks: what an office must keep of a state so that it can take an operation back."""

from sharedunseen.backs import MOST_TUPLES, tuple_steps
from sharedunseen.checks import check_name, chosen_operations, first_unknown, table_of
from sharedunseen.errors import Refused
from sharedunseen.homes import joint_homes, need_unseen_reversible, other_offices
from sharedunseen.partings import is_kept, is_view, least_places, numbered
from sharedunseen.runs import after
from sharedunseen.steady import other_operations
from sharedunseen.walks import run_along

MOST_HOMES = 6


class Marks:
    """A view that the others keep, and for each of its numbers a run that takes an operation back."""

    def __init__(self, view, runs):
        self.view = view
        self.runs = runs


def least_marks(store, name):
    """Some marks of an operation with the fewest numbers."""
    check_name(store, name)
    need_unseen_reversible(store)
    office = store.office_of(name)
    view = joint_homes(store, other_offices(store, (office,)))
    leasts = least_places(view)
    if len(leasts) > MOST_HOMES:
        raise Refused("wide")
    ends = store.operation(name)[1]
    start = tuple([ends[state] for state in leasts])
    # The others lead a run's effect on one state of their joint home to all of it, so the least ones tell all.
    steps = tuple_steps(chosen_operations(store, (office,)), start, MOST_TUPLES)
    chosen = fewest_tuples(list(steps), leasts)
    goals = [first_back(chosen, number, state) for number, state in enumerate(leasts)]
    marks = numbered([goals[number] for number in view])
    runs = [run_along(steps, goals[view[marks.index(mark)]]) for mark in range(max(marks) + 1)]
    return Marks(marks, tuple(runs))


def first_back(tuples, place, state):
    """The first tuple that has a state in its place."""
    return [goal for goal in tuples if goal[place] == state][0]


def fewest_tuples(tuples, leasts):
    """The fewest tuples of states such that each least state stands in its place in one of them."""
    best = {0: []}
    masks = {}
    for goal in tuples:
        mask = sum([1 << place for place, state in enumerate(leasts) if goal[place] == state])
        masks.setdefault(mask, goal)
    for covered in range(1 << len(leasts)):
        if covered in best:
            for mask, goal in masks.items():
                both = covered | mask
                if both not in best or len(best[both]) > len(best[covered]) + 1:
                    best[both] = best[covered] + [goal]
    return best[(1 << len(leasts)) - 1]


def check_marks(store, name, value):
    """Whether any value is marks of an operation."""
    check_name(store, name)
    need_unseen_reversible(store)
    if not isinstance(value, Marks) or not is_view(value.view, store.size):
        return False
    office = store.office_of(name)
    if not all([is_kept(operation[1], value.view) for operation in other_operations(store, office)]):
        return False
    own = table_of(store.offices[office])
    if not isinstance(value.runs, tuple) or len(value.runs) != max(value.view) + 1:
        return False
    if not all([isinstance(run, tuple) and first_unknown(run, own) is None for run in value.runs]):
        return False
    ends = store.operation(name)[1]
    return all([after(store, end, value.runs[mark]) == state
                for state, (end, mark) in enumerate(zip(ends, value.view))])
