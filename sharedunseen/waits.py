"""Operations that wait while the line is cut, so that nothing is noticed from some states."""

from sharedunseen.barring import are_prices, checked_prices
from sharedunseen.checks import first_unknown, table_of
from sharedunseen.clashes import all_clashes
from sharedunseen.errors import InvalidState
from sharedunseen.kinds import is_below, is_integer, is_lot, is_word
from sharedunseen.stores import operations_of
from sharedunseen.walks import bits_of, run_along


class Waits:
    """A cheapest lot `bars` without which nothing is noticed from some states, and a tree that shows it."""

    def __init__(self, states, prices, bars, cost, paper):
        self.states = states
        self.prices = {name: prices[name] for name in prices} if isinstance(prices, dict) else prices
        self.bars = bars
        self.cost = cost
        self.paper = paper


class Noise:
    """Where runs from some states lead in a store, and what clashes there."""

    def __init__(self, store, states):
        self.states = states
        self.words = store.names()
        self.operations = sorted(operations_of(store))
        self.table = table_of(self.operations)
        self.clashes = {}
        places = {name: place for place, name in enumerate(self.words)}
        for one, other, state, _ in all_clashes(store):
            row = self.clashes.setdefault(state, {})
            row[(one, other)] = 1 << places[one] | 1 << places[other]

    def run_without(self, held):
        """A shortest run without some operations whose last two clash, with its first state, or None."""
        steps = {state: None for state in self.states}
        queue = list(self.states)
        at = 0
        while at < len(queue):
            here = queue[at]
            at += 1
            for pair, mask in self.clashes.get(here, {}).items():
                if mask & held == 0:
                    return (first_of(steps, here), run_along(steps, here) + pair)
            for place, (name, ends, _) in enumerate(self.operations):
                if not held >> place & 1 and ends[here] not in steps:
                    steps[ends[here]] = (here, name)
                    queue.append(ends[here])
        return None

    def mask_of_names(self, names):
        """The operations with some names, as bits in the order of all names."""
        return sum([1 << place for place, word in enumerate(self.words) if word in names])

    def is_noisy(self, state, run):
        """Whether the last two operations of a run clash where the others lead from a state."""
        if len(run) < 2:
            return False
        for name in run[:-2]:
            state = self.table[name][1][state]
        row = self.clashes.get(state, {})
        return (run[-2], run[-1]) in row or (run[-1], run[-2]) in row


def first_of(steps, state):
    """The state at which the walk to a state begins."""
    while steps[state] is not None:
        state = steps[state][0]
    return state


def check_lot_of_states(store, states):
    """Raises unless any value is a lot of states."""
    if not is_lot(states, store.size):
        raise InvalidState()


def noisy_run(store, states):
    """A state of a lot and a shortest run from it whose last two operations clash, or None."""
    check_lot_of_states(store, states)
    return Noise(store, states).run_without(0)


def least_waits(store, states, *, prices=None):
    """The first cheapest lot without which no run is noisy, as a Waits."""
    check_lot_of_states(store, states)
    told = checked_prices(store, prices)
    noise = Noise(store, states)
    runs = {}
    for cost, _, held in priced_lots(noise.words, told):
        if not [mask for mask in runs if mask & held == 0]:
            found = noise.run_without(held)
            if found is None:
                names = tuple([noise.words[place] for place in bits_of(held)])
                costs = [told[name] for name in noise.words]
                return Waits(states, told, names, cost, paper_below(noise, costs, cost, runs, 0, 0))
            runs[noise.mask_of_names(found[1])] = found


def priced_lots(words, prices):
    """All lots of names as triples of their price, the lot, and its bits, cheaper ones and first ones first."""
    lots = [(0, (), 0)]
    for place, word in enumerate(words):
        lots.extend([(cost + prices[word], lot + (word,), held | 1 << place) for cost, lot, held in lots])
    return sorted(lots)


def paper_below(noise, costs, cost, runs, held, kept):
    """A tree that shows that lots with what is held and without what is kept cost at least `cost`.

    Each cheaper lot misses one of the runs.
    """
    if sum([costs[place] for place in bits_of(held)]) >= cost:
        return ("dear",)
    free = [(len(bits_of(mask & ~kept)), mask) for mask in runs if mask & held == 0]
    mask = min(free)[1]
    places = bits_of(mask & ~kept)
    nodes = []
    for place in places:
        nodes.append(paper_below(noise, costs, cost, runs, held | 1 << place, kept))
        kept |= 1 << place
    state, run = runs[mask]
    return ("run", state, run, tuple(nodes))


def check_waits(store, value):
    """Whether any value is a Waits with prices, a lot without which no run is noisy, and a tree that shows it."""
    if not isinstance(value, Waits) or not is_lot(value.states, store.size) or not are_prices(store, value.prices):
        return False
    bars = value.bars
    if not isinstance(bars, tuple) or first_unknown(bars, value.prices) is not None:
        return False
    if list(bars) != sorted(set(bars)):
        return False
    cost = sum([value.prices[name] for name in bars])
    if not is_below(value.cost, cost + 1) or value.cost != cost:
        return False
    noise = Noise(store, value.states)
    if noise.run_without(noise.mask_of_names(bars)) is not None:
        return False
    return is_wait_paper(noise, value, value.paper, (), ())


def is_wait_paper(noise, waits, node, held, kept):
    """Whether any value is a node of a tree for the names that are held and kept, as the document tells."""
    if not isinstance(node, tuple):
        return False
    if len(node) == 1 and is_word(node[0], "dear"):
        return sum([waits.prices[name] for name in held]) >= waits.cost
    if len(node) != 4 or not is_word(node[0], "run"):
        return False
    _, state, run, nodes = node
    if not is_run_from(noise, waits.states, state, run) or [name for name in run if name in held]:
        return False
    names = [name for name in sorted(set(run)) if name not in kept]
    if not isinstance(nodes, tuple) or len(nodes) != len(names):
        return False
    for name, further in zip(names, nodes):
        if not is_wait_paper(noise, waits, further, held + (name,), kept):
            return False
        kept = kept + (name,)
    return True


def is_run_from(noise, states, state, run):
    """Whether any values are one of some states and a run from it whose last two operations clash."""
    if not is_integer(state) or state not in states:
        return False
    if not isinstance(run, tuple) or first_unknown(run, noise.table) is not None:
        return False
    return noise.is_noisy(state, run)
