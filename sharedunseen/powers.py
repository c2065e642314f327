"""Runs that are done many times, one behind the other."""

from sharedunseen.checks import check_number, first_unknown
from sharedunseen.errors import InvalidRun, InvalidState
from sharedunseen.groups import opposite, power
from sharedunseen.kinds import is_below
from sharedunseen.names import left_of, name_of, right_of, state_of
from sharedunseen.runs import after, answers_of, check_run, check_state

MOST_TIMES = 1_000_000_000_000_000_000


def check_keys(run, table):
    """Raises unless any value is a tuple of keys of a dict of names."""
    if not isinstance(run, tuple):
        raise InvalidRun(-1)
    at = first_unknown(run, table)
    if at is not None:
        raise InvalidRun(at)


def check_named_state(names, state):
    """Raises unless any value is a state that has a name."""
    if not is_below(state, len(names.owns)):
        raise InvalidState()


def far_pair(table, steps, part, many):
    """The part and the factor to which `many` steps lead from a part.

    `steps` has for each part the next one and the share by which the factor is then
    multiplied from the left. Behind the tail the parts, and so these shares, come round.
    """
    parts = []
    factors = [0]
    here = part
    while here not in parts and len(parts) < many:
        parts.append(here)
        here, share = steps[here]
        factors.append(table[share][factors[-1]])
    if len(parts) == many:
        return (here, factors[-1])
    tail = parts.index(here)
    rounds, rest = divmod(many - tail, len(parts) - tail)
    back = table[factors[tail]].index(0)
    turn = power(table, table[factors[-1]][back], rounds)
    further = table[factors[tail + rest]][back]
    return (parts[tail + rest], table[table[further][turn]][factors[tail]])


def run_steps(names, run, part, step):
    """For each part that repetitions of a run reach what `step`, a function of names, run and part, returns."""
    steps = {}
    here = part
    while here not in steps:
        steps[here] = step(names, run, here)
        here = steps[here][0]
    return steps


def right_step(names, run, other):
    """As `right_of`, with the part first."""
    factor, end = right_of(names, run, other)
    return (end, factor)


def left_power(names, run, own, many):
    """The own part and the factor to which a run of office 0, done `many` times, leads."""
    check_keys(run, names.left)
    check_number(own, max(names.owns) + 1, "own")
    check_number(many, MOST_TIMES + 1, "many")
    return far_pair(names.table, run_steps(names, run, own, left_of), own, many)


def right_power(names, run, other, many):
    """The factor and the other part to which a run of office 1, done `many` times, leads."""
    check_keys(run, names.right)
    check_number(other, max(names.others) + 1, "other")
    check_number(many, MOST_TIMES + 1, "many")
    steps = run_steps(names, run, other, right_step)
    end, factor = far_pair(opposite(names.table), steps, other, many)
    return (factor, end)


def power_ends(names, state, run, many, other, more):
    """The copies of both offices and the state of all, if runs of both are done `many` and `more` times."""
    check_named_state(names, state)
    check_keys(run, names.left)
    check_number(many, MOST_TIMES + 1, "many")
    check_keys(other, names.right)
    check_number(more, MOST_TIMES + 1, "more")
    own, _, rest = name_of(names, state)
    left = left_power(names, run, own, many)
    right = right_power(names, other, rest, more)
    return ends_between(names, state, left, right)


def ends_between(names, state, left, right):
    """The states to which a pair of `left_of` leads a state, a pair of `right_of`, and both."""
    own, share, other = name_of(names, state)
    end, factor = left
    further, other_end = right
    moved = names.table[factor][share]
    return (state_of(names, (end, moved, other)),
            state_of(names, (own, names.table[share][further], other_end)),
            state_of(names, (end, names.table[moved][further], other_end)))


def states_round(store, state, run):
    """The states to which a run leads, done 0, 1, 2 .. times, until one comes again, and the place of this one."""
    states = []
    places = {}
    here = state
    while here not in places:
        places[here] = len(states)
        states.append(here)
        here = after(store, here, run)
    return (states, places[here])


def tail_and_round(store, state, run):
    """How often a run is done until a state is reached that comes again, and how often until it comes again."""
    check_state(store, state)
    check_run(store, run)
    states, tail = states_round(store, state, run)
    return (tail, len(states) - tail)


def state_among(states, tail, many):
    """The state that is reached behind so many times."""
    if many < len(states):
        return states[many]
    return states[tail + (many - tail) % (len(states) - tail)]


def after_times(store, state, run, many):
    """The state to which a run, done `many` times, leads."""
    check_state(store, state)
    check_run(store, run)
    check_number(many, MOST_TIMES + 1, "many")
    states, tail = states_round(store, state, run)
    return state_among(states, tail, many)


def answer_sums(store, state, run, many):
    """For each place of a run the sum of the answers that are given there when it is done `many` times."""
    check_state(store, state)
    check_run(store, run)
    check_number(many, MOST_TIMES + 1, "many")
    states, tail = states_round(store, state, run)
    sums = [0] * len(run)
    for place, here in enumerate(states):
        times = times_at(place, tail, len(states), many)
        if times > 0:
            sums = [total + times * answer for total, answer in zip(sums, answers_of(store, here, run))]
    return tuple(sums)


def times_at(place, tail, length, many):
    """How many of so many times begin at the state with a place among those of `states_round`."""
    if many <= place:
        return 0
    return 1 if place < tail else 1 + (many - 1 - place) // (length - tail)


def again_ends(store, state, run, other):
    """The lot of the states to which a run, done any number of times, and then another one, likewise, lead."""
    check_state(store, state)
    check_run(store, run)
    check_run(store, other)
    found = {}
    for start in states_round(store, state, run)[0]:
        here = start
        while here not in found:
            found[here] = True
            here = after(store, here, other)
    return tuple(sorted(list(found)))
