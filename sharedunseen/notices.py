"""What is noticed of a cut, and how soon."""

from sharedunseen.checks import chosen_operations, table_of
from sharedunseen.clashes import all_clashes, clash_run
from sharedunseen.errors import InvalidState
from sharedunseen.kinds import are_below
from sharedunseen.runs import after, answers_of, check_run, check_state, own_run
from sharedunseen.stores import operations_of
from sharedunseen.walks import first_steps, run_along


def check_states(store, states):
    """Raises unless any value is a tuple with a state for each office."""
    if not are_below(states, len(store.offices), store.size):
        raise InvalidState()


def cut_answers(store, states, run):
    """The answers that the operations of a run give while the line is cut."""
    check_states(store, states)
    check_run(store, run)
    table = table_of(operations_of(store))
    owners = {name: store.office_of(name) for name in table}
    here = list(states)
    answers = []
    for name in run:
        _, ends, told = table[name]
        answers.append(told[here[owners[name]]])
        here[owners[name]] = ends[here[owners[name]]]
    return tuple(answers)


def copies(store, states, run):
    """The states of the copies of all offices after a cut in which a run was done."""
    check_states(store, states)
    check_run(store, run)
    found = []
    for office, state in enumerate(states):
        own = table_of(store.offices[office])
        rest = tuple([name for name in run if name not in own])
        found.append(after(store, state, own_run(store, run, office) + rest))
    return tuple(found)


def noticed(store, state, run):
    """The first that tells a cut from a single store, or None."""
    check_state(store, state)
    check_run(store, run)
    states = (state,) * len(store.offices)
    single = answers_of(store, state, run)
    for place, answer in enumerate(cut_answers(store, states, run)):
        if answer != single[place]:
            return ("answers", place, store.office_of(run[place]))
    end = after(store, state, run)
    for office, copy_end in enumerate(copies(store, states, run)):
        if copy_end != end:
            return ("ends", len(run), office)
    return None


def nearest_clash(store, state):
    """The first of the shortest runs to a state with a clash, and its first clash, or None."""
    check_state(store, state)
    firsts = {}
    for clash in all_clashes(store):
        firsts.setdefault(clash[2], clash)
    steps = first_steps(chosen_operations(store, None), state)
    for goal in steps:
        if goal in firsts:
            return (run_along(steps, goal), firsts[goal])
    return None


def soonest(store, state):
    """The length of the shortest runs that are noticed from a state, or None."""
    run = soonest_run(store, state)
    return None if run is None else len(run)


def soonest_run(store, state):
    """A shortest run that is noticed from a state, or None."""
    nearest = nearest_clash(store, state)
    if nearest is None:
        return None
    run, clash = nearest
    return run + clash_run(store, clash)
