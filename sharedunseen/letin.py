"""Operations that may be given to an office without a clash."""

from sharedunseen.checks import check_number, check_office
from sharedunseen.clashes import answer_changes, ends_clash
from sharedunseen.errors import Refused
from sharedunseen.homes import joint_homes, lasting_states, other_offices
from sharedunseen.kinds import are_below
from sharedunseen.partings import least_places
from sharedunseen.stores import is_operation
from sharedunseen.steady import other_operations


def may_be_given(store, office, value):
    """Whether any value is a new operation that clashes with no operation of another office."""
    check_office(store, office)
    if not is_operation(value, store.size) or store.office_of(value[0]) is not None:
        return False
    return not any([is_clashing(value, other) for other in other_operations(store, office)])


def is_clashing(one, other):
    """Whether two operations would clash at some state if they were of two offices."""
    return True in ends_clash(one, other) or True in answer_changes(one, other) or True in answer_changes(other, one)


def least_states(store, office):
    """The least state of each joint home of the others, ascending; raises if some state does not last for them."""
    others = other_offices(store, (office,))
    if len(lasting_states(store, others)) < store.size:
        raise Refused("oneway")
    return least_places(joint_homes(store, others))


def moved_alike(operations, start, goal):
    """For each state to which runs lead `start` where they lead `goal`, as a dict.

    It is None if two runs that lead `start` to one state lead `goal` to two, or if
    some run gives unlike answers from the two.
    """
    moved = {start: goal}
    queue = [start]
    at = 0
    while at < len(queue):
        here = queue[at]
        there = moved[here]
        at += 1
        for _, ends, answers in operations:
            if answers[here] != answers[there] or moved.get(ends[here], ends[there]) != ends[there]:
                return None
            if ends[here] not in moved:
                moved[ends[here]] = ends[there]
                queue.append(ends[here])
    return moved


def goals_of(store, office, start):
    """The lot of the states to which ends that may be given lead a state that lasts for the others."""
    operations = other_operations(store, office)
    return tuple([goal for goal in range(store.size) if moved_alike(operations, start, goal) is not None])


def given_goals(store, office):
    """The lot of the goals of each joint home of the others."""
    check_office(store, office)
    return tuple([goals_of(store, office, least) for least in least_states(store, office)])


def count_given(store, office):
    """How many tuples of ends may be given."""
    return count_choices(given_goals(store, office))


def count_choices(goals):
    """How many tuples there are with an item of each lot in its place."""
    many = 1
    for lot in goals:
        many *= len(lot)
    return many


def given_ends(store, office, number):
    """The tuple of ends that may be given with this number."""
    goals = given_goals(store, office)
    check_number(number, count_choices(goals), "number")
    chosen = []
    for lot in reversed(goals):
        number, place = divmod(number, len(lot))
        chosen.append(lot[place])
    return ends_to(store, office, list(reversed(chosen)))


def ends_to(store, office, goals):
    """The tuple of ends that leads the least state of each joint home of the others to its goal."""
    ends = [0] * store.size
    for start, goal in zip(least_states(store, office), goals):
        for state, end in moved_alike(other_operations(store, office), start, goal).items():
            ends[state] = end
    return tuple(ends)


def number_of_given(store, office, value):
    """The number of any value that is a tuple of ends that may be given, otherwise None."""
    goals = given_goals(store, office)
    if not are_below(value, store.size, store.size):
        return None
    chosen = [value[least] for least in least_states(store, office)]
    number = 0
    for goal, lot in zip(chosen, goals):
        if goal not in lot:
            return None
        number = number * len(lot) + lot.index(goal)
    return number if ends_to(store, office, chosen) == value else None
