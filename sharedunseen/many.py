"""Stores of three and more offices: cores, commons, and the group of a core."""

from sharedunseen.checks import check_number, chosen_operations
from sharedunseen.errors import Refused
from sharedunseen.homes import homes, joint_homes, need_unseen_reversible, other_offices
from sharedunseen.partings import common_view
from sharedunseen.runs import after, check_state, shortest_run
from sharedunseen.shared import Shared, product_table

MANY_OFFICES = 3


def need_many_offices(store):
    """Raises unless a store has three offices or more, nothing clashes, and each state can be reached from each."""
    if len(store.offices) < MANY_OFFICES:
        raise Refused("offices")
    need_unseen_reversible(store)


def core_view(store):
    """The view of the states that are in one home for each office, for a store that is unseen and reversible."""
    return common_view([homes(store, office) for office in range(len(store.offices))])


def part_views(store):
    """For each office the view of the joint homes of its others."""
    offices = range(len(store.offices))
    return [joint_homes(store, other_offices(store, (office,))) for office in offices]


def cores(store):
    """The view in which states have equal numbers if they are in one core."""
    need_unseen_reversible(store)
    return core_view(store)


def commons(store):
    """The view in which states have equal numbers if they are in one common."""
    need_unseen_reversible(store)
    return common_view(part_views(store))


def core_measure(store):
    """For each office how many joint homes its others have, then how many states a common and a core have."""
    need_unseen_reversible(store)
    views = part_views(store)
    owns = [max(view) + 1 for view in views]
    return (tuple(owns), common_view(views).count(0), core_view(store).count(0))


def core_end(store, one, goal, state):
    """Where runs of some offices that lead `one` to `goal` lead `state`, None if they are not in one core."""
    check_state(store, one)
    check_state(store, goal)
    check_state(store, state)
    need_many_offices(store)
    core = core_view(store)
    if core[goal] != core[one] or core[state] != core[one]:
        return None
    return after(store, state, shortest_run(store, one, goal, (0,)))


def states_like(view, base):
    """The states that have the number of `base` in a view, this one first."""
    rest = [state for state, number in enumerate(view) if number == view[base] and state != base]
    return (base,) + tuple(rest)


def core_table(store, base):
    """The products in the core of a state, by runs of office 0, for a store that is unseen and reversible."""
    shares = states_like(core_view(store), base)
    return Shared(product_table(chosen_operations(store, (0,)), shares), shares)


def core_rows(store, core, shares):
    """For the number of each core the states to which some run leads the states of the first one, in their order.

    The cores are reached office by office. So where own parts tell the core, the runs of
    an office that lead to it hang on its own part alone.
    """
    rows = {core[shares[0]]: tuple(shares)}
    for operations in store.offices:
        queue = list(rows)
        at = 0
        while at < len(queue):
            row = rows[queue[at]]
            at += 1
            for operation in operations:
                moved = tuple([operation[1][state] for state in row])
                if core[moved[0]] not in rows:
                    rows[core[moved[0]]] = moved
                    queue.append(core[moved[0]])
    return rows


def core_group(store, *, base=0):
    """The table of the products of the states of the core of `base`."""
    check_number(base, store.size, "base")
    need_many_offices(store)
    # It is commutative, so the product may be that of the two in the other order.
    return core_table(store, base)
