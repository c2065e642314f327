"""Operations and offices joined until nothing clashes, offices counted together, and offices left out."""

from sharedunseen.checks import check_lot, first_unknown, table_of
from sharedunseen.clashes import clash_states, clashing_pairs
from sharedunseen.errors import InvalidNumber, Refused
from sharedunseen.homes import joint_homes, need_unseen_reversible, other_offices
from sharedunseen.letin import is_clashing
from sharedunseen.partings import joined_view, operation_over
from sharedunseen.stores import LEAST_OFFICES, MOST_OFFICES, Store, operations_of
from sharedunseen.views import blind_view, merged_view
from sharedunseen.walks import bits_of


def bundles(store):
    """The finest parting of all operations in which those that would clash are together, as lots of names."""
    operations = sorted(operations_of(store))
    pairs = [(place, further) for place, one in enumerate(operations) for further in range(place)
             if is_clashing(one, operations[further])]
    view = joined_view(len(operations), pairs, [])
    lots = {}
    for operation, number in zip(operations, view):
        lots.setdefault(number, []).append(operation[0])
    return tuple([tuple(lot) for lot in list(lots.values())])


def regrouped(store, groups):
    """The store whose offices have the operations that are named in some groups."""
    table = table_of(operations_of(store))
    if not are_groups(groups, table):
        raise Refused("groups")
    return Store(store.size, tuple([tuple([table[name] for name in group]) for group in groups]))


def are_groups(value, table):
    """Whether any value is a tuple of tuples, as many as offices, that together have each name once."""
    if not isinstance(value, tuple) or not LEAST_OFFICES <= len(value) <= MOST_OFFICES:
        return False
    names = []
    for group in value:
        if not isinstance(group, tuple) or first_unknown(group, table) is not None:
            return False
        names.extend(group)
    return len(names) == len(table) and len(set(names)) == len(table)


def must_join(store):
    """For each office a number, the same for offices that must be joined so that nothing clashes."""
    pairs = [(store.office_of(one), store.office_of(other)) for one, other in clashing_pairs(store)]
    return joined_view(len(store.offices), pairs, [])


def part_counts(store):
    """A dict of the number of the joint homes of its others for each lot of offices."""
    need_unseen_reversible(store)
    everyone = tuple(range(len(store.offices)))
    # Where each state lasts for all, what a run joins it joins both ways: joint homes are blind views.
    views = {(): tuple(range(store.size))}
    for mask in range(1, 1 << len(everyone)):
        lot = bits_of(mask)
        views[lot] = merged_view(views[lot[:-1]], blind_view(store, lot[-1:]))
    counts = {}
    for lot in sorted(list(views)):
        counts[lot] = max(views[other_offices(store, lot)]) + 1
    return counts


def shared_count(store, one, other):
    """How often two lots of offices together have more joint homes of their others than each one gives."""
    check_lot(store, one, "one")
    check_lot(store, other, "other")
    if [office for office in other if office in one]:
        raise InvalidNumber("other")
    need_unseen_reversible(store)
    both = tuple(sorted(one + other))
    return count_parts(store, both) // (count_parts(store, one) * count_parts(store, other))


def count_parts(store, lot):
    """The number of the joint homes of the others of a lot of offices."""
    return max(joint_homes(store, other_offices(store, lot))) + 1


def folded(store, offices):
    """The store of the others of some offices, whose states are the joint homes of these."""
    check_lot(store, offices, "offices")
    others = other_offices(store, offices)
    if len(others) < LEAST_OFFICES:
        raise Refused("offices")
    if clash_states(store):
        raise Refused("seen")
    view = joint_homes(store, offices)
    rows = [tuple([operation_over(operation, view) for operation in store.offices[office]]) for office in others]
    return Store(max(view) + 1, tuple(rows))
