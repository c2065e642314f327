"""Steady views: when the answers to an office are those of a single store."""

from sharedunseen.checks import check_office
from sharedunseen.partings import is_carried_by, is_kept, is_view, joined_view


def other_operations(store, office):
    """A list of the operations of all other offices."""
    return [operation for number, own in enumerate(store.offices) if number != office for operation in own]


def steady_view(store, office):
    """The finest view that is steady for an office."""
    check_office(store, office)
    pairs = []
    for operation in other_operations(store, office):
        pairs.extend(list(enumerate(operation[1])))
    return joined_view(store.size, pairs, [operation[1] for operation in store.offices[office]])


def is_steady(store, office, value):
    """Whether any value is a steady view of an office on which the answers to it hang."""
    check_office(store, office)
    if not is_view(value, store.size):
        return False
    if not all([is_kept(operation[1], value) for operation in other_operations(store, office)]):
        return False
    for _, ends, answers in store.offices[office]:
        if not is_carried_by([value[end] for end in ends], value) or not is_carried_by(answers, value):
            return False
    return True


def misled(store, office):
    """A shortest run of an office whose last answer another office's operation changes, or None.

    It is returned as `(state, other, run)`.
    """
    check_office(store, office)
    own = store.offices[office]
    steps = {}
    for name, ends, _ in other_operations(store, office):
        for state, end in enumerate(ends):
            steps.setdefault((state, end), (None, name))
    queue = list(steps)
    at = 0
    while at < len(queue):
        one, other = queue[at]
        at += 1
        for name, ends, answers in own:
            if answers[one] != answers[other]:
                return misled_along(steps, (one, other), name)
            pair = (ends[one], ends[other])
            if pair not in steps:
                steps[pair] = ((one, other), name)
                queue.append(pair)
    return None


def misled_along(steps, pair, last):
    """The state, the operation and the run that lead to a pair of states with unlike answers to `last`."""
    names = [last]
    before, name = steps[pair]
    while before is not None:
        names.append(name)
        pair = before
        before, name = steps[pair]
    return (pair[0], name, tuple(reversed(names)))


def answers_hold(store, *, office=None):
    """Whether all answers to an office, or to every office, are those of a single store in every cut."""
    if office is not None:
        check_office(store, office)
        return is_steady(store, office, steady_view(store, office))
    offices = range(len(store.offices))
    return all([is_steady(store, number, steady_view(store, number)) for number in offices])
