"""Views, and those that are blind to some offices."""

from sharedunseen.checks import check_number, check_office, chosen_operations
from sharedunseen.errors import InvalidView
from sharedunseen.kinds import is_integer
from sharedunseen.partings import is_carried_by, is_kept, joined_view, numbered, view_fault


def check_view(store, value):
    """Raises unless any value is a view of the states."""
    at = view_fault(value, store.size)
    if at is not None:
        raise InvalidView(at)


def view_of(store, things):
    """The view in which states have equal numbers if their integers are equal."""
    if not isinstance(things, tuple) or len(things) != store.size:
        raise InvalidView(-1)
    for at, thing in enumerate(things):
        if not is_integer(thing):
            raise InvalidView(at)
    return numbered(things)


def is_finer(one, other):
    """Whether states with equal numbers in one view have equal numbers in the other one."""
    return is_carried_by(other, one)


def refinement(one, other):
    """The coarsest view that is finer than two views."""
    return numbered(list(zip(one, other)))


def merged_view(one, other):
    """The finest view that is coarser than two views."""
    pairs = [(view.index(number), state) for view in (one, other) for state, number in enumerate(view)]
    return joined_view(len(one), pairs, [])


def is_blind(store, view, office):
    """Whether a view is blind to an office."""
    check_view(store, view)
    check_office(store, office)
    return all([is_kept(operation[1], view) for operation in store.offices[office]])


def blind_offices(store, view):
    """The lot of the offices to which a view is blind."""
    check_view(store, view)
    return tuple([office for office in range(len(store.offices)) if is_blind(store, view, office)])


def blind_view(store, offices):
    """The finest view that is blind to each of some offices."""
    pairs = [step for operation in chosen_operations(store, offices) for step in enumerate(operation[1])]
    return joined_view(store.size, pairs, [])


def parting_counts(many):
    """For each number of things that are left a list: how many partings there are by the parts there are.

    A further thing comes to one of the parts there are, or begins a new one.
    """
    rows = [[1] * (many + 1)]
    for left in range(1, many + 1):
        below = rows[-1]
        rows.append([parts * below[parts] + below[parts + 1] for parts in range(many + 1 - left)])
    return rows


def count_blind_views(store, offices):
    """How many views are blind to each of some offices."""
    many = max(blind_view(store, offices)) + 1
    return parting_counts(many)[many][0]


def blind_view_at(store, offices, number):
    """The view with this index in the ascending sequence of all views that are blind to some offices."""
    finest = blind_view(store, offices)
    many = max(finest) + 1
    rows = parting_counts(many)
    check_number(number, rows[many][0], "number")
    chosen = []
    parts = 0
    for left in reversed(range(many)):
        part = min(parts, number // rows[left][parts])
        number -= part * rows[left][parts]
        chosen.append(part)
        parts = max(parts, part + 1)
    return tuple([chosen[part] for part in finest])


def place_of_blind_view(store, offices, view):
    """The index of a view among all that are blind to some offices, or None if it is not."""
    finest = blind_view(store, offices)
    check_view(store, view)
    if not is_finer(finest, view):
        return None
    many = max(finest) + 1
    rows = parting_counts(many)
    number = 0
    parts = 0
    for first in range(many):
        part = view[finest.index(first)]
        number += part * rows[many - 1 - first][parts]
        parts = max(parts, part + 1)
    return number
