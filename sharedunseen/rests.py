"""Where runs come to rest: the homes and regions of states that last."""

from sharedunseen.checks import chosen_operations
from sharedunseen.errors import InvalidNumber
from sharedunseen.homes import joint_homes, lasting_states, need_smooth
from sharedunseen.kinds import is_below
from sharedunseen.runs import after, check_state, reachable
from sharedunseen.walks import first_steps, run_along


def last_homes(store, state, offices=None):
    """The lot of the numbers of the joint homes of lasting states to which runs of some offices lead."""
    near = reachable(store, state, offices)
    lasting = lasting_states(store, offices)
    view = joint_homes(store, offices)
    return tuple(sorted(set([view[there] for there in near if there in lasting])))


def first_run_into(store, state, office, goals):
    """The first of the shortest runs of an office that lead a state to one of some states."""
    steps = first_steps(chosen_operations(store, (office,)), state)
    return run_along(steps, [there for there in steps if there in goals][0])


def rest_runs(store, state):
    """For each office the first of its shortest runs that lead to a state that lasts for it."""
    check_state(store, state)
    offices = range(len(store.offices))
    return tuple([first_run_into(store, state, office, lasting_states(store, (office,))) for office in offices])


def fate(store, state, choice):
    """The number of the region to which runs of all offices lead, each of which alone leads to the chosen home."""
    check_state(store, state)
    need_smooth(store)
    if not isinstance(choice, tuple) or len(choice) != len(store.offices):
        raise InvalidNumber("choice")
    end = state
    for office, number in enumerate(choice):
        if not is_below(number, store.size) or number not in last_homes(store, state, (office,)):
            raise InvalidNumber("choice")
        view = joint_homes(store, (office,))
        home = [there for there in range(store.size) if view[there] == number]
        end = after(store, end, first_run_into(store, state, office, home))
    return joint_homes(store, None)[end]
