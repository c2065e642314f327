"""Cheapest lots that meet all clashing pairs, and why no lot is cheaper.

Operations are told by the places of their names in ascending order, lots of them by
numbers with these bits. A lot that is being chosen holds some operations and lacks others.
"""

from sharedunseen.clashes import clashing_pairs
from sharedunseen.flows import greatest_loads
from sharedunseen.walks import bits_of


class ClashGraph:
    """The clashing pairs of a store, with the price of each operation."""

    def __init__(self, store, prices):
        self.words = store.names()
        self.costs = [prices[name] for name in self.words]
        self.sides = [store.office_of(name) for name in self.words]
        places = {name: place for place, name in enumerate(self.words)}
        self.pairs = [(places[one], places[other]) for one, other in clashing_pairs(store)]
        self.near = linked_masks(self.pairs, len(self.words))

    def everything(self):
        """All operations."""
        return (1 << len(self.words)) - 1

    def price_of(self, mask):
        """What some operations cost together."""
        return sum([self.costs[place] for place in bits_of(mask)])

    def names_in(self, mask):
        """The lot of the names of some operations."""
        return tuple([self.words[place] for place in bits_of(mask)])


def linked_masks(pairs, many):
    """For each of so many places those with which it is a pair."""
    masks = [0] * many
    for one, other in pairs:
        masks[one] |= 1 << other
        masks[other] |= 1 << one
    return masks


class PairChoice:
    """The cheapest lots of a store of two offices.

    A lot is cheapest exactly if each load is paid once: it lacks what is not fully
    loaded, and holds just one operation of each loaded pair. So each choice for one
    operation tells others, and choices that do not contradict can always be completed.
    """

    def __init__(self, graph):
        self.graph = graph
        self.loads = two_sided_loads(graph)
        self.tied = linked_masks(list(self.loads), len(graph.words))
        paid = [0] * len(graph.words)
        for (one, other), load in self.loads.items():
            paid[one] += load
            paid[other] += load
        slack = [place for place, cost in enumerate(graph.costs) if paid[place] < cost]
        self.cost = sum(list(self.loads.values()))
        self.forced = self.followed(0, 0, [(place, False) for place in slack])

    def followed(self, held, kept, steps):
        """What is held and lacked if the steps, pairs (place, hold), are added; None if they contradict."""
        todo = list(steps)
        while todo:
            place, hold = todo.pop()
            if (held if hold else kept) >> place & 1:
                continue
            if hold:
                held |= 1 << place
                todo.extend([(further, False) for further in bits_of(self.tied[place])])
            else:
                kept |= 1 << place
                todo.extend([(further, True) for further in bits_of(self.graph.near[place])])
            if held & kept:
                return None
        return (held, kept)

    def chosen(self, held, kept, place, hold):
        """What is held and lacked in cheapest lots after one more choice, None if there are none."""
        return self.followed(held, kept, [(place, hold)])


class WideChoice:
    """The cheapest lots of any store, found by trying operations one by one."""

    def __init__(self, graph):
        self.graph = graph
        self.least = {}
        self.cost = self.least_cost(graph.everything())
        self.forced = (0, 0)

    def least_cost(self, mask):
        """The price of the cheapest lots that meet all pairs within some operations."""
        near = self.graph.near
        linked = 0
        for place in bits_of(mask):
            if near[place] & mask:
                linked |= 1 << place
        if linked not in self.least:
            cost = 0
            if linked:
                place = busiest(near, linked)
                rest = linked & ~(1 << place)
                beside = near[place] & linked
                cost = min(self.graph.costs[place] + self.least_cost(rest),
                           self.graph.price_of(beside) + self.least_cost(rest & ~beside))
            self.least[linked] = cost
        return self.least[linked]

    def chosen(self, held, kept, place, hold):
        """What is held and lacked in cheapest lots after one more choice, None if there are none."""
        if hold:
            held |= 1 << place
        else:
            kept |= 1 << place
            held |= self.graph.near[place]
        rest = self.graph.everything() & ~held & ~kept
        if held & kept or self.graph.price_of(held) + self.least_cost(rest) > self.cost:
            return None
        return (held, kept)


def busiest(near, mask):
    """The first of the places in a mask that have the most pairs in it."""
    return max(bits_of(mask), key=lambda place: len(bits_of(near[place] & mask)))


def choice_of(store, graph):
    """The choice among the cheapest lots of a store."""
    return PairChoice(graph) if len(store.offices) == 2 else WideChoice(graph)


def first_lots(choice, most):
    """The first `most` cheapest lots, as masks, in the order of their lots of names."""
    found = []
    add_lots(choice, choice.forced, 0, most, found)
    return found


def add_lots(choice, chosen, place, most, found):
    """Adds to `found` the lots that agree with what is chosen, up to `most` in all."""
    held, kept = chosen
    while place < len(choice.graph.words) and (held | kept) >> place & 1:
        place += 1
    if place == len(choice.graph.words):
        found.append(held)
        return
    for hold in (True, False):
        if len(found) < most:
            further = choice.chosen(held, kept, place, hold)
            if further is not None:
                add_lots(choice, further, place + 1, most, found)


def two_sided_loads(graph):
    """Greatest loads of the pairs of two offices that keep the prices."""
    near = [[] for _ in graph.words]
    for one, other in graph.pairs:
        near[one].append(other)
    lefts = [cost if side == 0 else 0 for cost, side in zip(graph.costs, graph.sides)]
    rights = [cost if side == 1 else 0 for cost, side in zip(graph.costs, graph.sides)]
    return greatest_loads(near, lefts, rights)


def doubled_loads(graph, mask):
    """Greatest loads of the pairs within some operations that keep twice the prices.

    Each operation stands on both sides, with its price on each.
    """
    near = [[] for _ in graph.words]
    for one, other in graph.pairs:
        if mask >> one & mask >> other & 1:
            near[one].append(other)
            near[other].append(one)
    both = greatest_loads(near, graph.costs, graph.costs)
    loads = {}
    for one, other in graph.pairs:
        load = both.get((one, other), 0) + both.get((other, one), 0)
        if load > 0:
            loads[(one, other)] = load
    return loads


def named_loads(graph, loads, factor):
    """The loads, many times as great, by the pairs of names."""
    return {(graph.words[one], graph.words[other]): factor * loads[(one, other)] for one, other in loads}


def paper_of(graph, cost, held, kept):
    """A tree that shows that no lot that agrees with what is chosen is cheaper than `cost`."""
    rest = graph.everything() & ~held & ~kept
    loads = doubled_loads(graph, rest)
    if sum(list(loads.values())) + 2 * graph.price_of(held) >= 2 * cost - 1:
        return ("loads", named_loads(graph, loads, 1))
    place = busiest(graph.near, rest)
    with_it = paper_of(graph, cost, held | 1 << place, kept)
    without_it = paper_of(graph, cost, held | graph.near[place], kept | 1 << place)
    return ("split", graph.words[place], with_it, without_it)
