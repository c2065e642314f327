"""Partings of the states, written as views."""

from sharedunseen.kinds import is_below


def numbered(things):
    """The view in which places of a list with equal things have equal numbers."""
    numbers = {}
    for thing in things:
        numbers.setdefault(thing, len(numbers))
    return tuple([numbers[thing] for thing in things])


def common_view(views):
    """The view in which states have equal numbers if they have equal numbers in each of some views."""
    return numbered([tuple([view[state] for view in views]) for state in range(len(views[0]))])


def view_fault(value, size):
    """The index of the first wrong item of any value that is no view of so many states, -1 for a wrong shape.

    It is None for a view.
    """
    if not isinstance(value, tuple) or len(value) != size:
        return -1
    fresh = 0
    for at, item in enumerate(value):
        if not is_below(item, fresh + 1):
            return at
        fresh = max(fresh, item + 1)
    return None


def is_view(value, size):
    """Whether any value is a view of so many states."""
    return view_fault(value, size) is None


def least_places(view):
    """A list of the first place of each number of a view."""
    firsts = {}
    for place, number in enumerate(view):
        firsts.setdefault(number, place)
    return list(firsts.values())


def operation_over(operation, view):
    """The operation on the numbers of a view that carries it, with the answers of the least states."""
    name, ends, answers = operation
    leasts = least_places(view)
    return (name, tuple([view[ends[state]] for state in leasts]), tuple([answers[state] for state in leasts]))


def is_kept(ends, view):
    """Whether an operation with these ends keeps a view."""
    return all([view[end] == number for end, number in zip(ends, view)])


def is_carried_by(things, view):
    """Whether states with equal numbers in a view have equal things in a list."""
    told = {}
    for number, thing in zip(view, things):
        if told.setdefault(number, thing) != thing:
            return False
    return True


def leader_of(leaders, state):
    """The leader of the part of a state; the states on the way are led to it straight."""
    leader = state
    while leaders[leader] != leader:
        leader = leaders[leader]
    while leaders[state] != leader:
        further = leaders[state]
        leaders[state] = leader
        state = further
    return leader


def joined_view(size, pairs, carried):
    """The finest view in which pairs have equal numbers and that operations with some ends carry."""
    leaders = list(range(size))
    todo = list(pairs)
    while todo:
        one, other = todo.pop()
        first = leader_of(leaders, one)
        second = leader_of(leaders, other)
        if first != second:
            leaders[second] = first
            todo.extend([(ends[first], ends[second]) for ends in carried])
    return numbered([leader_of(leaders, state) for state in range(size)])
