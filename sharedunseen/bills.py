"""Bills: what the operations of a run cost, each at the state at which it is done."""

from sharedunseen.checks import check_number, has_names
from sharedunseen.errors import InvalidNumber
from sharedunseen.kinds import is_integer
from sharedunseen.runs import check_run, check_state, passed
from sharedunseen.weavings import check_own_runs, narrow_grid

MOST_RATE = 1_000_000_000
MOST_TIMES = 1_000_000_000_000_000_000


def check_rates(store, rates):
    """Raises unless any value is a dict with a rate of each operation of the store for each state."""
    if not has_names(store, rates) or not all([are_rates(row, store.size) for row in list(rates.values())]):
        raise InvalidNumber("rates")


def are_rates(value, size):
    """Whether any value is a tuple of so many rates."""
    if not isinstance(value, tuple) or len(value) != size:
        return False
    return all([is_integer(rate) and -MOST_RATE <= rate <= MOST_RATE for rate in value])


def bill(store, rates, state, run):
    """The sum of the rates of the operations of a run."""
    check_rates(store, rates)
    return billed(rates, passed(store, state, run), run)


def billed(rates, states, run):
    """The bill of a run that passes these states."""
    return sum([rates[name][here] for name, here in zip(run, states)])


def bill_again(store, rates, state, run, times):
    """The bill of a run that is done `times` times, one behind the other."""
    check_rates(store, rates)
    check_state(store, state)
    check_run(store, run)
    check_number(times, MOST_TIMES + 1, "times")
    bills = [0]
    firsts = {}
    here = state
    while here not in firsts and len(bills) <= times:
        firsts[here] = len(bills) - 1
        states = passed(store, here, run)
        bills.append(bills[-1] + billed(rates, states, run))
        here = states[-1]
    if times < len(bills):
        return bills[times]
    # From the first time on that comes to a state again the same bills come round and round.
    tail = firsts[here]
    rounds, rest = divmod(times - tail, len(bills) - 1 - tail)
    return bills[tail + rest] + rounds * (bills[-1] - bills[tail])


def checked_grid(store, rates, state, runs):
    """The grid of the runs of all offices, if all arguments are of the kinds that are asked."""
    check_rates(store, rates)
    check_state(store, state)
    check_own_runs(store, runs)
    return narrow_grid(store, runs)


def rest_spans(grid, rates, state):
    """For each cell and each state reached there the least and the greatest bill of the rest."""
    reached = grid.forward(state)
    spans = [{} for _ in range(grid.many)]
    for cell in reversed(range(grid.many)):
        steps = grid.steps(cell)
        for here in reached[cell]:
            lows = []
            highs = []
            for operation, further in steps:
                low, high = spans[further][operation[1][here]]
                lows.append(low + rates[operation[0]][here])
                highs.append(high + rates[operation[0]][here])
            spans[cell][here] = (min(lows, default=0), max(highs, default=0))
    return spans


def bill_span(store, rates, state, runs):
    """The least and the greatest bill of the weavings of the runs of all offices."""
    grid = checked_grid(store, rates, state, runs)
    return rest_spans(grid, rates, state)[0][state]


def cheapest_weaving(store, rates, state, runs):
    """The first weaving of the runs of all offices with the least bill."""
    grid = checked_grid(store, rates, state, runs)
    spans = rest_spans(grid, rates, state)
    names = []
    cell = 0
    while cell < grid.many - 1:
        least = spans[cell][state][0]
        fitting = [(operation, further) for operation, further in grid.steps(cell)
                   if rates[operation[0]][state] + spans[further][operation[1][state]][0] == least]
        operation, cell = fitting[0]
        names.append(operation[0])
        state = operation[1][state]
    return tuple(names)
