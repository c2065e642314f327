"""Copies put together behind a cut without logs: from their states alone."""

from sharedunseen.checks import chosen_operations
from sharedunseen.errors import InvalidNumber, InvalidState, Refused
from sharedunseen.homes import need_smooth
from sharedunseen.islands import check_islands
from sharedunseen.kinds import are_below, is_below
from sharedunseen.runs import after, check_run, check_state


def island_lots(store, islands):
    """The islands, each office for None; raises for any other value."""
    if islands is None:
        return tuple([(office,) for office in range(len(store.offices))])
    check_islands(store, islands)
    return islands


def check_ends(store, ends, lots):
    """Raises unless any value is a tuple with a state for each island."""
    if not are_below(ends, len(lots), store.size):
        raise InvalidState()


def island_ends(store, state, run, *, islands=None):
    """For each island the state to which its operations in a run lead a state."""
    lots = island_lots(store, islands)
    check_state(store, state)
    check_run(store, run)
    owners = {name: store.office_of(name) for name in store.names()}
    return tuple([after(store, state, tuple([name for name in run if owners[name] in lot])) for lot in lots])


def ways_to(operations, goal):
    """For each state from which runs lead to a goal, the ends of the first operation of a shortest such run."""
    sources = {}
    for _, ends, _ in operations:
        for state, end in enumerate(ends):
            sources.setdefault(end, []).append((state, ends))
    ways = {goal: None}
    queue = [goal]
    at = 0
    while at < len(queue):
        here = queue[at]
        at += 1
        for state, ends in sources.get(here, []):
            if state not in ways:
                ways[state] = ends
                queue.append(state)
    return ways


def ways_to_ends(store, ends, lots):
    """For each island the ways to its end."""
    return [ways_to(chosen_operations(store, lot), end) for lot, end in zip(lots, ends)]


def put_together(ways, state):
    """Where the ways from a state, one behind the other, lead it; None if there is not a way for each island."""
    reached = state
    for way in ways:
        if state not in way:
            return None
        here = state
        while way[here] is not None:
            ends = way[here]
            here = ends[here]
            reached = ends[reached]
    return reached


def merged(store, state, ends, *, islands=None):
    """The state to which runs of all islands lead a state, each of which alone leads it to the island's end."""
    lots = island_lots(store, islands)
    check_state(store, state)
    check_ends(store, ends, lots)
    need_smooth(store)
    reached = put_together(ways_to_ends(store, ends, lots), state)
    if reached is None:
        raise Refused("reach")
    return reached


def join_ends(store, state, ends, one, other, *, islands=None):
    """The islands and the ends behind the mending of the line between two islands."""
    lots = island_lots(store, islands)
    check_state(store, state)
    check_ends(store, ends, lots)
    if not is_below(one, len(lots)):
        raise InvalidNumber("one")
    if not is_below(other, len(lots)) or other == one:
        raise InvalidNumber("other")
    need_smooth(store)
    ways = ways_to_ends(store, ends, lots)
    if put_together(ways, state) is None:
        raise Refused("reach")
    new_lots = list(lots)
    new_ends = list(ends)
    new_lots[one] = tuple(sorted(lots[one] + lots[other]))
    new_ends[one] = put_together([ways[one], ways[other]], state)
    del new_lots[other]
    del new_ends[other]
    return (tuple(new_lots), tuple(new_ends))


def results_of(store, ends, lots):
    """A dict from the states that each island can lead to its end to the states that are put together from them."""
    ways = ways_to_ends(store, ends, lots)
    results = {}
    for state in range(store.size):
        reached = put_together(ways, state)
        if reached is not None:
            results[state] = reached
    return results


def starts(store, ends, *, islands=None):
    """The lot of the states that each island alone can lead to its end."""
    lots = island_lots(store, islands)
    check_ends(store, ends, lots)
    need_smooth(store)
    return tuple(list(results_of(store, ends, lots)))


def starts_to(store, ends, goal, *, islands=None):
    """The lot of the starts from which the ends are put together to a goal."""
    lots = island_lots(store, islands)
    check_ends(store, ends, lots)
    check_state(store, goal)
    need_smooth(store)
    return tuple([state for state, reached in results_of(store, ends, lots).items() if reached == goal])


def outcomes(store, ends, *, islands=None):
    """The lot of the states that are put together from the ends for all starts."""
    lots = island_lots(store, islands)
    check_ends(store, ends, lots)
    need_smooth(store)
    return tuple(sorted(set(list(results_of(store, ends, lots).values()))))
