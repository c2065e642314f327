"""What an office may know of the single store while the line is cut, and what it learns behind the cut."""

from sharedunseen.checks import check_lot, check_run_of, chosen_operations
from sharedunseen.errors import InvalidNumber
from sharedunseen.homes import joint_homes, need_smooth_reversible, other_offices
from sharedunseen.kinds import is_lot
from sharedunseen.looks import check_look
from sharedunseen.runs import after, check_state, distances, reachable


def possible(store, offices, state, look):
    """The lot of the numbers of a look at the states to which the others lead a state."""
    check_lot(store, offices, "offices")
    check_state(store, state)
    check_look(store, look)
    return tuple(sorted(set([look[there] for there in reachable(store, state, other_offices(store, offices))])))


def sure_for(store, offices, state, look):
    """How many operations of the others at most leave the number of a look as it is, None for any number of them."""
    check_lot(store, offices, "offices")
    check_state(store, state)
    check_look(store, look)
    lengths = distances(store, state, other_offices(store, offices))
    changed = [length for there, length in enumerate(lengths) if length is not None and look[there] != look[state]]
    return min(changed) - 1 if changed else None


def check_other_lot(store, offices, others):
    """Raises unless any value is a lot of offices outside of a lot of offices."""
    if not is_lot(others, len(store.offices)) or [office for office in others if office in offices]:
        raise InvalidNumber("others")


def learnt(store, offices, state, run, end, others):
    """The lot of the states to which the operations of `others` alone lead a state in runs that explain an end."""
    check_lot(store, offices, "offices")
    check_state(store, state)
    check_run_of(store, run, offices)
    check_state(store, end)
    check_other_lot(store, offices, others)
    moves = moves_of(store, offices, others)
    start = (after(store, state, run), state)
    found = {start: True}
    queue = [start]
    at = 0
    while at < len(queue):
        here, alone = queue[at]
        at += 1
        for ends, alone_ends in moves:
            pair = (ends[here], alone_ends[alone])
            if pair not in found:
                found[pair] = True
                queue.append(pair)
    return tuple(sorted(set([alone for here, alone in queue if here == end])))


def moves_of(store, offices, others):
    """For each operation that is not of the offices its ends, and what it does where only `others` are done."""
    still = tuple(range(store.size))
    moves = [(operation[1], operation[1]) for operation in chosen_operations(store, others)]
    neither = other_offices(store, offices + others)
    return moves + [(operation[1], still) for operation in chosen_operations(store, neither)]


def hidden(store, offices, others):
    """How many states have all the results of `learnt` that are not empty."""
    check_lot(store, offices, "offices")
    check_other_lot(store, offices, others)
    need_smooth_reversible(store)
    own = joint_homes(store, others)
    rest = joint_homes(store, other_offices(store, offices + others))
    return len([pair for pair in zip(own, rest) if pair == (own[0], rest[0])])
