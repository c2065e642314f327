"""Orders of islands that explain every cut, rings that stand against them, and cuts that nothing explains."""

from sharedunseen.checks import chosen_operations
from sharedunseen.clashes import answer_changes
from sharedunseen.errors import Refused
from sharedunseen.homes import is_reversible, joint_homes, need_smooth
from sharedunseen.islands import check_islands
from sharedunseen.kinds import is_below
from sharedunseen.runs import check_state, reachable, shortest_run


class Hanging:
    """The near states of some islands, and which islands hang on which."""

    def __init__(self, store, islands, state):
        check_islands(store, islands)
        check_state(store, state)
        need_smooth(store)
        self.islands = islands
        self.everyone = tuple(sorted([office for lot in islands for office in lot]))
        self.near = {here: True for here in reachable(store, state, self.everyone)}
        self.rows = [chosen_operations(store, lot) for lot in islands]
        self.hooks = {}
        for number in range(len(islands)):
            for further in range(len(islands)):
                hook = self.hook_of(number, further)
                if number != further and hook is not None:
                    self.hooks[(number, further)] = hook

    def hook_of(self, number, further):
        """Some triple by which an island hangs on another one, or None."""
        for one in self.rows[number]:
            for other in self.rows[further]:
                for state, changed in enumerate(answer_changes(one, other)):
                    if changed and state in self.near:
                        return (one[0], other[0], state)
        return None

    def below(self, number):
        """The lot of the islands on which an island hangs."""
        return tuple([further for further in range(len(self.islands)) if (number, further) in self.hooks])

    def above(self, number):
        """The lot of the islands that hang on an island."""
        return tuple([further for further in range(len(self.islands)) if (further, number) in self.hooks])


def hanging(store, islands, state):
    """For each island the lot of the islands on which it hangs."""
    known = Hanging(store, islands, state)
    return tuple([known.below(number) for number in range(len(islands))])


def first_order(store, islands, state):
    """The first order in which each island stands before all on which it hangs, or None."""
    known = Hanging(store, islands, state)
    order = []
    while len(order) < len(islands):
        free = [number for number in range(len(islands)) if number not in order
                and not [further for further in known.above(number) if further not in order]]
        if not free:
            return None
        order.append(free[0])
    return tuple(order)


def count_orders(store, islands, state):
    """The number of the orders in which each island stands before all on which it hangs."""
    known = Hanging(store, islands, state)
    many = len(islands)
    above = [sum([1 << further for further in known.above(number)]) for number in range(many)]
    counts = [1] + [0] * ((1 << many) - 1)
    for before in range(1 << many):
        for number in range(many):
            if not before >> number & 1 and above[number] & ~before == 0:
                counts[before | 1 << number] += counts[before]
    return counts[-1]


def shortest_ring(known):
    """The numbers of the fewest islands each of which hangs on the next one, the last one on the first, or None."""
    best = None
    for start in range(len(known.islands)):
        rows = [(start,)]
        at = 0
        seen = {}
        while at < len(rows) and (best is None or len(rows[at]) < len(best)):
            row = rows[at]
            at += 1
            if start in known.below(row[-1]):
                best = row
            for further in known.below(row[-1]):
                if further not in seen:
                    seen[further] = True
                    rows.append(row + (further,))
    return best


def hanging_ring(store, islands, state):
    """Some ring with the fewest triples, or None."""
    known = Hanging(store, islands, state)
    row = shortest_ring(known)
    return None if row is None else tuple([known.hooks[pair] for pair in zip(row, row[1:] + row[:1])])


def check_ring(store, islands, state, value):
    """Whether any value is a ring."""
    known = Hanging(store, islands, state)
    if not isinstance(value, tuple) or len(value) == 0:
        return False
    pairs = [pair_of(store, known, triple) for triple in value]
    if None in pairs:
        return False
    return [pair[1] for pair in pairs] == [pair[0] for pair in pairs[1:] + pairs[:1]]


def pair_of(store, known, triple):
    """The islands of the operations of any value that is a triple by which one hangs on another one, or None."""
    if not isinstance(triple, tuple) or len(triple) != 3:
        return None
    one, other, state = triple
    first = island_of(store, known, one)
    second = island_of(store, known, other)
    if first is None or second is None or first == second:
        return None
    if not is_below(state, store.size) or state not in known.near:
        return None
    changed = answer_changes(store.operation(one), store.operation(other))[state]
    return (first, second) if changed else None


def island_of(store, known, name):
    """The island of the operation that any value names, or None."""
    office = store.office_of(name)
    for number, lot in enumerate(known.islands):
        if office is not None and office in lot:
            return number
    return None


def unexplained(store, islands, state):
    """Some near state and runs of the islands whose answers no weaving explains, or None."""
    known = Hanging(store, islands, state)
    if not is_reversible(store):
        raise Refused("oneway")
    if [number for number in range(len(islands)) if len(known.below(number)) > 1]:
        raise Refused("several")
    ring = shortest_ring(known)
    return None if ring is None else RingCut(store, known, ring, state).cut()


class RingCut:
    """A cut of the islands of a ring in which each one's last answer tells that the next one has done nothing.

    Each island hangs on the next one alone, so other islands do not change its answers.
    If no island may do its last operation behind all of the next one's run, each must do
    it before the next one does its last one, all round: there is no such weaving.
    """

    def __init__(self, store, known, ring, state):
        self.store = store
        self.lots = [known.islands[number] for number in ring]
        self.ring = ring
        self.many = len(known.islands)
        self.homes = [joint_homes(store, lot) for lot in self.lots]
        # What only one island changes is the same in a joint home of all other islands.
        self.owns = [joint_homes(store, without_lot(known.everyone, lot)) for lot in self.lots]
        hooks = [known.hooks[pair] for pair in zip(ring, ring[1:] + ring[:1])]
        self.lasts = [store.operation(hook[0]) for hook in hooks]
        self.places = [hook[2] for hook in hooks]
        self.end = self.common_end(state)

    def common_end(self, state):
        """A near state to which each island's last operation leads from where its answer tells something."""
        for at, last in enumerate(self.lasts):
            goal = last[1][self.places[at]]
            state = self.state_in(at, state, self.owns[at], goal)[0]
        return state

    def state_in(self, at, state, view, goal):
        """The states in the home of a state for an island that have the number of a goal in a view."""
        home = self.homes[at]
        return [here for here in range(self.store.size) if home[here] == home[state] and view[here] == view[goal]]

    def before_last(self, at):
        """The state from which the last operation of an island leads to the end, as the others have done all."""
        ends = self.lasts[at][1]
        known = self.state_in(at, self.end, self.owns[at], self.places[at])
        return [here for here in known if ends[here] == self.end][0]

    def start_of(self, at):
        """A state from which the next island leads to the end, and from behind another answer of the last operation."""
        _, ends, answers = self.lasts[at]
        here = self.before_last(at)
        home = self.homes[(at + 1) % len(self.lots)]
        told = [there for there, number in enumerate(home) if number == home[here] and answers[there] != answers[here]]
        return ends[told[0]]

    def cut(self):
        """The state before the cut, and the runs of all islands."""
        state = self.end
        runs = [()] * self.many
        for at, number in enumerate(self.ring):
            start = self.start_of(at - 1)
            lot = self.lots[at]
            runs[number] = shortest_run(self.store, start, self.before_last(at), lot) + (self.lasts[at][0],)
            for name in shortest_run(self.store, self.end, start, lot):
                state = self.store.operation(name)[1][state]
        return (state, tuple(runs))


def without_lot(offices, lot):
    """The lot of the offices that are not in another lot."""
    return tuple([office for office in offices if office not in lot])
