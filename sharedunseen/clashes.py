"""Clashes: the operations of two offices whose sequence is noticed at a state."""

from sharedunseen.errors import InvalidRun
from sharedunseen.kinds import is_below, is_word
from sharedunseen.runs import check_state

ENDS = "ends"
ANSWERS = "answers"


def all_clashes(store):
    """All clashes that hold, in their order."""
    return tuple([clash for one, other in office_pairs(store) for clash in pair_clashes(store, one, other)])


def office_pairs(store):
    """The pairs of operations of different offices, in the order of clashes."""
    pairs = []
    for low, office in enumerate(store.offices):
        for further in store.offices[low + 1:]:
            pairs.extend([(one, other) for one in office for other in further])
    return pairs


def pair_clashes(store, one, other):
    """The clashes of two operations, in their order."""
    ends = ends_clash(one, other)
    answers = answer_changes(one, other)
    back_answers = answer_changes(other, one)
    found = []
    if True in ends or True in answers or True in back_answers:
        for state in range(store.size):
            if ends[state]:
                found.append((one[0], other[0], state, ENDS))
            if answers[state] or back_answers[state]:
                found.append((one[0], other[0], state, ANSWERS))
    return found


def ends_clash(one, other):
    """For each state whether the two sequences of two operations lead to different states."""
    forth = [other[1][state] for state in one[1]]
    back = [one[1][state] for state in other[1]]
    return [first != second for first, second in zip(forth, back)]


def answer_changes(one, other):
    """For each state whether doing `other` first changes the answer of `one`."""
    return [one[2][moved] != answer for moved, answer in zip(other[1], one[2])]


def clashing_pairs(store):
    """The pairs of names of operations that clash at some state, in the order of clashes."""
    return tuple([(one[0], other[0]) for one, other in office_pairs(store) if pair_clashes(store, one, other)])


def clash_states(store):
    """The lot of the states at which a clash holds."""
    return tuple(sorted(set([clash[2] for clash in all_clashes(store)])))


def clash_of(store, one, other, state):
    """The first clash of two operations, named in either order, at a state, or None."""
    if store.office_of(one) is None:
        raise InvalidRun(0)
    if store.office_of(other) in (None, store.office_of(one)):
        raise InvalidRun(1)
    check_state(store, state)
    if store.office_of(one) > store.office_of(other):
        one, other = other, one
    for clash in pair_clashes(store, store.operation(one), store.operation(other)):
        if clash[2] == state:
            return clash
    return None


def is_clash(store, value):
    """Whether any value is a clash that holds."""
    if not isinstance(value, tuple) or len(value) != 4:
        return False
    one, other, state, kind = value
    low = store.office_of(one)
    high = store.office_of(other)
    if low is None or high is None or low >= high or not is_below(state, store.size):
        return False
    first = store.operation(one)
    second = store.operation(other)
    if is_word(kind, ENDS):
        return ends_clash(first, second)[state]
    if is_word(kind, ANSWERS):
        return answer_changes(first, second)[state] or answer_changes(second, first)[state]
    return False


def clash_run(store, clash):
    """The two operations of a clash that holds in the sequence in which it is noticed."""
    one, other, state, kind = clash
    if kind == ANSWERS and answer_changes(store.operation(one), store.operation(other))[state]:
        return (other, one)
    return (one, other)


def ends_hold(store):
    """Whether no clash of ends holds."""
    return not any([True in ends_clash(one, other) for one, other in office_pairs(store)])
