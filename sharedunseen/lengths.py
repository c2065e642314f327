"""Where runs of told lengths lead, and what only the lengths of runs tell."""

from math import gcd

from sharedunseen.checks import check_office, chosen_operations
from sharedunseen.clashes import clash_states
from sharedunseen.errors import InvalidNumber, Refused
from sharedunseen.homes import need_unseen_reversible
from sharedunseen.kinds import are_below
from sharedunseen.partings import joined_view, least_places
from sharedunseen.relations import composed, image_mask, step_masks, still_masks, times_done
from sharedunseen.runs import check_state
from sharedunseen.stores import operations_of
from sharedunseen.walks import bits_of, first_steps, step_counts

MOST_LENGTH = 1_000_000_000_000_000_000
MOST_TOGETHER = 300


def check_lengths(store, lengths):
    """Raises unless any value is a tuple with a length for each office."""
    if not are_below(lengths, len(store.offices), MOST_LENGTH + 1):
        raise InvalidNumber("lengths")


def need_unseen(store):
    """Raises unless nothing clashes in a store."""
    if clash_states(store):
        raise Refused("seen")


def ends_by(store, state, lengths):
    """The lot of the states to which weavings of runs with exactly these lengths lead a state."""
    check_state(store, state)
    check_lengths(store, lengths)
    need_unseen(store)
    reached = 1 << state
    for row, length in zip(store.offices, lengths):
        reached = image_mask(reached, times_done(step_masks(row, store.size), length))
    return bits_of(reached)


def runs_by(store, state, lengths, goal):
    """The first tuple of runs of all offices with these lengths whose weavings lead a state to a goal, or None."""
    check_state(store, state)
    check_lengths(store, lengths)
    check_state(store, goal)
    need_unseen(store)
    if sum(lengths) > MOST_TOGETHER:
        raise Refused("long")
    owners = [office for office, length in enumerate(lengths) for _ in range(length)]
    rows = [chosen_operations(store, (office,)) for office in range(len(lengths))]
    # Nothing clashes, so the runs may be done one behind the other; the last items tell of the whole rest.
    good = [{goal: True}]
    for office in reversed(owners):
        later = good[-1]
        good.append({here: True for here in range(store.size)
                     if [operation for operation in rows[office] if operation[1][here] in later]})
    good.reverse()
    if state not in good[0]:
        return None
    runs = [[] for _ in lengths]
    for office, later in zip(owners, good[1:]):
        name, ends, _ = [operation for operation in rows[office] if operation[1][state] in later][0]
        runs[office].append(name)
        state = ends[state]
    return tuple([tuple(run) for run in runs])


def phases(store):
    """The finest view on which all operations of an office do the same, and to which they lead all states alike."""
    need_unseen_reversible(store)
    pairs = []
    for row in store.offices:
        for operation in row[1:]:
            pairs.extend(list(zip(row[0][1], operation[1])))
    return joined_view(store.size, pairs, [operation[1] for operation in operations_of(store)])


def phase_steps(store):
    """For each office the phases to which its operations lead the phases, None for an office without operations."""
    view = phases(store)
    leasts = least_places(view)
    return tuple([tuple([view[row[0][1][state]] for state in leasts]) if row else None for row in store.offices])


def settling(store, office):
    """From which length on, and with which period, runs of an office lead to the same states."""
    check_office(store, office)
    need_unseen_reversible(store)
    row = store.offices[office]
    if not row:
        return (1, 1)
    period = period_of(row)
    step = step_masks(row, store.size)
    turn = times_done(step, period)
    jumps = [step]
    while not is_settled(jumps[-1], turn):
        jumps.append(composed(jumps[-1], jumps[-1]))
    length = 0
    reached = still_masks(store.size)
    if is_settled(reached, turn):
        return (0, period)
    # The greatest length that is not enough, bit by bit.
    for place in reversed(range(len(jumps))):
        further = composed(reached, jumps[place])
        if not is_settled(further, turn):
            reached = further
            length += 1 << place
    return (length + 1, period)


def is_settled(masks, turn):
    """Whether a relation followed by a turn is the relation itself."""
    return composed(masks, turn) == masks


def period_of(row):
    """The greatest number that divides the lengths of all rounds in the home of state 0.

    The others lead each home of the office to each other one, so all have the same rounds.
    """
    counts = step_counts(first_steps(row, 0))
    period = 0
    for state, count in counts.items():
        for operation in row:
            period = gcd(period, count + 1 - counts[operation[1][state]])
    return period
