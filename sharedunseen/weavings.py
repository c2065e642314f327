"""Weavings: the runs of several offices, done as one run."""

from math import comb

from sharedunseen.checks import check_number, check_office, is_run_of
from sharedunseen.errors import InvalidNumber, InvalidRun, Refused
from sharedunseen.grids import Grid
from sharedunseen.kinds import is_integer, is_name, is_order
from sharedunseen.runs import check_run, check_state, own_run

MOST_CELLS = 1000


def check_runs(runs):
    """Raises unless any value is a tuple of tuples of names of which no two have one name."""
    if not isinstance(runs, tuple):
        raise InvalidRun(-1)
    owners = {}
    for at, run in enumerate(runs):
        if not isinstance(run, tuple):
            raise InvalidRun(at)
        for name in run:
            if not is_name(name) or owners.get(name, at) != at:
                raise InvalidRun(at)
            owners[name] = at


def count_weavings(runs):
    """The number of the weavings of some runs."""
    check_runs(runs)
    many = 1
    total = 0
    for run in runs:
        total += len(run)
        many *= comb(total, len(run))
    return many


def weaving_at(runs, number):
    """The weaving of some runs with this index in the order of all of them."""
    many = count_weavings(runs)
    if not is_integer(number) or not 0 <= number < many:
        raise InvalidNumber("number")
    left = [len(run) for run in runs]
    length = sum(left)
    names = []
    for total in range(length, 0, -1):
        # The weavings that go on with a run are as many, in proportion, as it has operations left.
        share = number * total // many
        owner = 0
        before = 0
        while before + left[owner] <= share:
            before += left[owner]
            owner += 1
        names.append(runs[owner][len(runs[owner]) - left[owner]])
        number -= many * before // total
        many = many * left[owner] // total
        left[owner] -= 1
    return tuple(names)


def place_of_weaving(runs, run):
    """The index of a weaving of some runs in the order of all of them."""
    many = count_weavings(runs)
    owners = weaving_owners(runs, run)
    left = [len(own) for own in runs]
    number = 0
    total = len(run)
    for owner in owners:
        number += many * sum(left[:owner]) // total
        many = many * left[owner] // total
        left[owner] -= 1
        total -= 1
    return number


def weaving_owners(runs, run):
    """For each operation of a weaving the index of its run; raises for any other value."""
    if not isinstance(run, tuple):
        raise InvalidRun(-1)
    owners = {name: at for at, own in enumerate(runs) for name in own}
    done = [0] * len(runs)
    found = []
    for at, name in enumerate(run):
        if not isinstance(name, str) or name not in owners:
            raise InvalidRun(at)
        owner = owners[name]
        if done[owner] == len(runs[owner]) or runs[owner][done[owner]] != name:
            raise InvalidRun(at)
        done[owner] += 1
        found.append(owner)
    if sum(done) < sum([len(own) for own in runs]):
        raise InvalidRun(len(run))
    return found


def goal_places(runs, one, other):
    """For each operation of the weaving `one` its place in the weaving `other`."""
    check_runs(runs)
    owners = weaving_owners(runs, one)
    places = [[] for _ in runs]
    for place, owner in enumerate(weaving_owners(runs, other)):
        places[owner].append(place)
    done = [0] * len(runs)
    goals = []
    for owner in owners:
        goals.append(places[owner][done[owner]])
        done[owner] += 1
    return goals


def count_exchanges(runs, one, other):
    """The least number of exchanges that lead one weaving to another one."""
    goals = goal_places(runs, one, other)
    many = 0
    for at, goal in enumerate(goals):
        many += len([further for further in goals[at + 1:] if further < goal])
    return many


def exchanges(runs, one, other):
    """The places of fewest exchanges that lead one weaving to another one."""
    goals = goal_places(runs, one, other)
    length = len(goals)
    places = []
    for place in range(length):
        at = goals.index(place)
        places.extend(list(reversed(range(place, at))))
        del goals[at]
        goals.insert(place, place)
    return tuple(places)


def sorted_run(store, run, order=None):
    """The own runs of a run one behind the other, in the sequence of some order of the offices."""
    check_run(store, run)
    many = len(store.offices)
    if order is not None and not is_order(order, many):
        raise InvalidNumber("order")
    offices = tuple(range(many)) if order is None else order
    names = []
    for office in offices:
        names.extend(own_run(store, run, office))
    return tuple(names)


def check_own_runs(store, runs):
    """Raises unless any value is a tuple with a run of each office."""
    if not isinstance(runs, tuple) or len(runs) != len(store.offices):
        raise InvalidRun(-1)
    for office, run in enumerate(runs):
        if not is_run_of(store, run, (office,)):
            raise InvalidRun(office)


def narrow_grid(store, runs):
    """The grid of runs with not too many cells."""
    many = 1
    for run in runs:
        many *= len(run) + 1
    if many > MOST_CELLS:
        raise Refused("wide")
    return Grid(store, runs)


def ends_of_weavings(store, state, runs):
    """Pairs of the states to which weavings lead a state and the numbers of these weavings."""
    check_state(store, state)
    check_own_runs(store, runs)
    counts = narrow_grid(store, runs).forward(state)
    return tuple(sorted(list(counts[-1].items())))


def weaving_to(store, state, runs, goal):
    """The first weaving that leads a state to another one, or None."""
    check_state(store, state)
    check_own_runs(store, runs)
    check_state(store, goal)
    grid = narrow_grid(store, runs)
    good = grid.backward(goal)
    if state not in good[0]:
        return None
    names = []
    cell = 0
    while cell < grid.many - 1:
        fitting = [step for step in grid.steps(cell) if step[0][1][state] in good[step[1]]]
        operation, cell = fitting[0]
        names.append(operation[0])
        state = operation[1][state]
    return tuple(names)


def answers_of_weavings(store, state, runs, office, place):
    """The lot of the answers that an operation of the run of an office gives in the weavings."""
    check_state(store, state)
    check_own_runs(store, runs)
    check_office(store, office)
    check_number(place, len(runs[office]), "place")
    grid = narrow_grid(store, runs)
    answers = store.operation(runs[office][place])[2]
    found = {}
    for cell, counts in enumerate(grid.forward(state)):
        if grid.place(cell, office) == place:
            for here in counts:
                found[answers[here]] = True
    return tuple(sorted(list(found)))
