"""Operations that are barred so that nothing clashes, at the least price."""

from sharedunseen.checks import check_number, check_office, first_unknown, has_names, table_of
from sharedunseen.clashes import clashing_pairs
from sharedunseen.covers import ClashGraph, choice_of, first_lots, named_loads, paper_of
from sharedunseen.errors import InvalidNumber, InvalidRun, Refused
from sharedunseen.kinds import is_below, is_word
from sharedunseen.stores import MOST_OPERATIONS, Store, operations_of

MOST_PRICE = 1_000_000_000
MOST_LOTS = 1000


class Barred:
    """A cheapest lot `bars` that meets all clashing pairs, its `cost`, and a tree that shows it."""

    def __init__(self, prices, bars, cost, paper):
        self.prices = {name: prices[name] for name in prices} if isinstance(prices, dict) else prices
        self.bars = bars
        self.cost = cost
        self.paper = copied_paper(paper, ())


def copied_paper(node, above):
    """The tree with new dicts; below a name that stands above it, no tree of a store goes on."""
    if isinstance(node, dict):
        return {key: node[key] for key in node}
    if isinstance(node, tuple) and len(node) == 2:
        return (node[0], copied_paper(node[1], above) if isinstance(node[1], dict) else node[1])
    if not isinstance(node, tuple) or len(node) != 4 or not isinstance(node[1], str):
        return node
    if node[1] in above or len(above) >= MOST_OPERATIONS:
        return node
    further = above + (node[1],)
    return (node[0], node[1], copied_paper(node[2], further), copied_paper(node[3], further))


def without(store, bars):
    """The store without some operations."""
    table = table_of(operations_of(store))
    if not isinstance(bars, tuple):
        raise InvalidRun(-1)
    barred = {}
    for at, name in enumerate(bars):
        if not isinstance(name, str) or name not in table or name in barred:
            raise InvalidRun(at)
        barred[name] = True
    offices = [[operation for operation in office if operation[0] not in barred] for office in store.offices]
    return Store(store.size, tuple([tuple(office) for office in offices]))


def are_prices(store, value):
    """Whether any value is a dict with a price for each operation of the store."""
    if not has_names(store, value):
        return False
    return all([is_below(price, MOST_PRICE + 1) and price > 0 for price in list(value.values())])


def checked_prices(store, prices):
    """A new dict of the prices, 1 for each operation if there are none."""
    if prices is None:
        return {name: 1 for name in store.names()}
    if not are_prices(store, prices):
        raise InvalidNumber("prices")
    return {name: prices[name] for name in store.names()}


def least_bars(store, *, prices=None):
    """The first cheapest lot that meets all clashing pairs, as a Barred."""
    told = checked_prices(store, prices)
    graph = ClashGraph(store, told)
    choice = choice_of(store, graph)
    lot = first_lots(choice, 1)[0]
    if len(store.offices) == 2:
        paper = ("loads", named_loads(graph, choice.loads, 2))
    else:
        paper = paper_of(graph, choice.cost, 0, 0)
    return Barred(told, graph.names_in(lot), choice.cost, paper)


def check_barred(store, value):
    """Whether any value is a Barred with prices, a cheapest lot, its price and a tree that shows it."""
    if not isinstance(value, Barred) or not are_prices(store, value.prices):
        return False
    graph = ClashGraph(store, value.prices)
    if not isinstance(value.bars, tuple):
        return False
    if first_unknown(value.bars, value.prices) is not None or value.bars != tuple(sorted(set(value.bars))):
        return False
    held = mask_of(graph, value.bars)
    cost = graph.price_of(held)
    if not is_below(value.cost, cost + 1) or value.cost != cost:
        return False
    if [pair for pair in graph.pairs if not (held >> pair[0] | held >> pair[1]) & 1]:
        return False
    return is_paper(graph, cost, value.paper, 0, 0)


def mask_of(graph, names):
    """Some operations by their names."""
    return sum([1 << place for place, name in enumerate(graph.words) if name in names])


def is_paper(graph, cost, node, held, kept):
    """Whether any value is a node of a tree for what is held and kept, as the document tells."""
    if not isinstance(node, tuple):
        return False
    if len(node) == 2 and is_word(node[0], "loads"):
        return are_loads(graph, cost, node[1], held)
    if len(node) != 4 or not is_word(node[0], "split") or not isinstance(node[1], str):
        return False
    if node[1] not in graph.words:
        return False
    place = graph.words.index(node[1])
    if (held | kept) >> place & 1:
        return False
    if not is_paper(graph, cost, node[2], held | 1 << place, kept):
        return False
    return is_paper(graph, cost, node[3], held | graph.near[place], kept | 1 << place)


def are_loads(graph, cost, loads, held):
    """Whether any value is a dict of loads that shows that lots with what is held are not cheaper."""
    if not isinstance(loads, dict):
        return False
    places = {}
    for one, other in graph.pairs:
        if not (held >> one | held >> other) & 1:
            places[(graph.words[one], graph.words[other])] = (one, other)
    paid = [0] * len(graph.words)
    for key, load in loads.items():
        if not is_pair_of_words(key) or key not in places or not is_below(load, 2 * MOST_PRICE + 1):
            return False
        for place in places[key]:
            paid[place] += load
    if [place for place, price in enumerate(graph.costs) if paid[place] > 2 * price]:
        return False
    return sum(list(loads.values())) + 2 * graph.price_of(held) >= 2 * cost - 1


def is_pair_of_words(value):
    """Whether any value is a tuple of two strings."""
    return isinstance(value, tuple) and len(value) == 2 and all([isinstance(word, str) for word in value])


def all_least_bars(store, *, prices=None, most=20):
    """All cheapest lots that meet all clashing pairs, ascending."""
    told = checked_prices(store, prices)
    check_number(most, MOST_LOTS + 1, "most")
    graph = ClashGraph(store, told)
    lots = first_lots(choice_of(store, graph), most + 1)
    if len(lots) > most:
        raise Refused("wide")
    return tuple([graph.names_in(lot) for lot in lots])


def bar_words(store, *, prices=None):
    """A dict that tells of each operation whether all, some or none of the cheapest lots have it."""
    graph = ClashGraph(store, checked_prices(store, prices))
    choice = choice_of(store, graph)
    held, kept = choice.forced
    told = {}
    for place, name in enumerate(graph.words):
        if choice.chosen(held, kept, place, False) is None:
            told[name] = "always"
        elif choice.chosen(held, kept, place, True) is None:
            told[name] = "never"
        else:
            told[name] = "some"
    return told


def sparing_bars(store, office, *, prices=None):
    """The only cheapest lot with no operation of an office but those that all cheapest lots have."""
    check_office(store, office)
    told = checked_prices(store, prices)
    if len(store.offices) != 2:
        raise Refused("offices")
    words = bar_words(store, prices=told)
    bars = {}
    for one, other in clashing_pairs(store):
        own, rest = (one, other) if office == 0 else (other, one)
        bars[own if words[own] == "always" else rest] = True
    return tuple(sorted(list(bars)))
