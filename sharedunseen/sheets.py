"""Sheets: list prices and worths that tell all bills, where no bill depends on the weaving."""

from math import gcd, lcm

from sharedunseen.bills import check_rates
from sharedunseen.checks import has_names
from sharedunseen.clashes import clash_states, office_pairs
from sharedunseen.errors import Refused
from sharedunseen.homes import is_reversible, need_unseen_reversible
from sharedunseen.kinds import is_below, is_integer
from sharedunseen.many import part_views
from sharedunseen.names import copied
from sharedunseen.partings import common_view, least_places
from sharedunseen.runs import check_run, check_state
from sharedunseen.stores import operations_of
from sharedunseen.walks import first_steps


class Sheet:
    """List prices of the operations, by the own parts of their offices, and worths of the states."""

    def __init__(self, scale, lists, worth):
        self.scale = scale
        self.lists = copied(lists)
        self.worth = worth


class Uneven:
    """Two operations of two offices and a state at which the bills of their two sequences are unlike."""

    def __init__(self, one, other, state):
        self.one = one
        self.other = other
        self.state = state


def sheet_of(store, rates):
    """The sheet of rates, or the first two operations and state at which the bill depends on the sequence."""
    check_rates(store, rates)
    need_unseen_reversible(store)
    for one, other in office_pairs(store):
        for state in range(store.size):
            if are_unlike(rates, one, other, state):
                return Uneven(one[0], other[0], state)
    return even_sheet(store, rates)


def are_unlike(rates, one, other, state):
    """Whether the bills of two operations, in the two sequences, are unlike at a state."""
    first = rates[one[0]][state] + rates[other[0]][one[1][state]]
    second = rates[other[0]][state] + rates[one[0]][other[1][state]]
    return first != second


def even_sheet(store, rates):
    """The sheet of rates that are not uneven.

    Operations lead the joint homes of the others onto one another. So the mean of the rates
    in such a home is a list price, up to what the own parts are worth, and what is left of
    the rates comes to nothing in all rounds, and so tells worths.
    """
    views = part_views(store)
    scale = 1
    for view in views:
        scale = lcm(scale, view.count(0))
    lists = mean_prices(store, rates, views, scale)
    worth = [0] * store.size
    for state, step in first_steps(operations_of(store), 0).items():
        if step is not None:
            before, name = step
            part = views[store.office_of(name)][before]
            worth[state] = worth[before] + scale * rates[name][before] - lists[name][part]
    own_worths = worths_alone(views, worth)
    for view, own, row in zip(views, own_worths, store.offices):
        for name, ends, _ in row:
            goals = [own[view[ends[state]]] for state in least_places(view)]
            lists[name] = [price + goal - here for price, goal, here in zip(lists[name], goals, own)]
    for view, own in zip(views, own_worths):
        worth = [total - own[part] for total, part in zip(worth, view)]
    return lowest_sheet(store, scale, lists, worth)


def mean_prices(store, rates, views, scale):
    """For each operation the means of its rates in the joint homes of the others, `scale` times each."""
    lists = {}
    for view, row in zip(views, store.offices):
        for operation in row:
            sums = [0] * (max(view) + 1)
            for part, rate in zip(view, rates[operation[0]]):
                sums[part] += rate
            lists[operation[0]] = [total * (scale // view.count(0)) for total in sums]
    return lists


def worths_alone(views, worth):
    """For each office the worths of its own parts where all others have those of state 0, at the least such states."""
    found = [[0] * (max(view) + 1) for view in views]
    for state in least_places(common_view(views)):
        changed = [office for office, view in enumerate(views) if view[state] != 0]
        if len(changed) == 1:
            found[changed[0]][views[changed[0]][state]] = worth[state]
    return found


def lowest_sheet(store, scale, lists, worth):
    """The sheet with all numbers divided by the greatest that divides them all."""
    common = scale
    for total in worth:
        common = gcd(common, total)
    for row in list(lists.values()):
        for price in row:
            common = gcd(common, price)
    prices = {name: tuple([price // common for price in lists[name]]) for name in store.names()}
    return Sheet(scale // common, prices, tuple([total // common for total in worth]))


def check_sheet(store, rates, value):
    """Whether any value is an Uneven that shows two unlike bills, or a sheet of the rates."""
    check_rates(store, rates)
    if clash_states(store) or not is_reversible(store):
        return False
    if isinstance(value, Uneven):
        return is_uneven(store, rates, value)
    return isinstance(value, Sheet) and is_sheet(store, rates, value)


def is_uneven(store, rates, value):
    """Whether two operations and a state are right."""
    low = store.office_of(value.one)
    high = store.office_of(value.other)
    if low is None or high is None or low >= high or not is_below(value.state, store.size):
        return False
    return are_unlike(rates, store.operation(value.one), store.operation(value.other), value.state)


def are_integers(value, many):
    """Whether any value is a tuple of so many integers."""
    return isinstance(value, tuple) and len(value) == many and all([is_integer(item) for item in value])


def is_sheet(store, rates, value):
    """Whether a sheet has numbers of the right kinds, for which the equations hold."""
    if not is_integer(value.scale) or value.scale < 1 or not are_integers(value.worth, store.size):
        return False
    if not has_names(store, value.lists):
        return False
    for view, row in zip(part_views(store), store.offices):
        for name, ends, _ in row:
            prices = value.lists[name]
            if not are_integers(prices, max(view) + 1):
                return False
            if [value.scale * rate for rate in rates[name]] != scaled_rates(value.worth, prices, view, ends):
                return False
    return True


def scaled_rates(worth, prices, view, ends):
    """For each state the list price there and what more the state behind the operation is worth."""
    return [prices[part] + worth[end] - worth[state] for state, (part, end) in enumerate(zip(view, ends))]


def rates_of(store, sheet):
    """The rates that a sheet tells."""
    need_unseen_reversible(store)
    rates = {}
    for view, row in zip(part_views(store), store.offices):
        for name, ends, _ in row:
            scaled = scaled_rates(sheet.worth, sheet.lists[name], view, ends)
            if [rate for rate in scaled if rate % sheet.scale != 0]:
                raise Refused("scale")
            rates[name] = tuple([rate // sheet.scale for rate in scaled])
    return rates


def own_bills(store, sheet, state, run):
    """For each office the sum of the list prices of its operations in a run."""
    check_state(store, state)
    check_run(store, run)
    need_unseen_reversible(store)
    views = part_views(store)
    totals = [0] * len(views)
    for name in run:
        office = store.office_of(name)
        totals[office] += sheet.lists[name][views[office][state]]
        state = store.operation(name)[1][state]
    return tuple(totals)
