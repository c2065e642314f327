"""What copies are behind one cut and behind several cuts."""

from sharedunseen.checks import check_number
from sharedunseen.errors import InvalidRun
from sharedunseen.kinds import is_lot
from sharedunseen.names import left_of, name_of, right_of
from sharedunseen.powers import MOST_TIMES, after_times, check_keys, check_named_state, ends_between
from sharedunseen.runs import check_run, check_state, own_run, shortest_run


class Replay:
    """What the copies know, the states in which they are, and the answers that were given."""

    def __init__(self, counts, ends, answers):
        self.counts = counts
        self.ends = ends
        self.answers = answers


def cut_ends(names, state, run, other):
    """The copies of both offices behind their runs, and the state to which each weaving of both leads."""
    check_named_state(names, state)
    check_keys(run, names.left)
    check_keys(other, names.right)
    own, _, rest = name_of(names, state)
    return ends_between(names, state, left_of(names, run, own), right_of(names, other, rest))


class Copies:
    """A copy of a store for each office, and the operations that were done, in their order.

    A copy knows the first operations of each office: it takes all that another one knows.
    """

    def __init__(self, store, state):
        many = len(store.offices)
        self.store = store
        self.done = []
        self.answers = []
        self.ends = [state] * many
        self.counts = [[0] * many for _ in range(many)]

    def act(self, name):
        """The office of an operation does it on its copy."""
        office = self.store.office_of(name)
        _, ends, answers = self.store.operation(name)
        self.done.append((office, self.counts[office][office], ends))
        self.answers.append(answers[self.ends[office]])
        self.ends[office] = ends[self.ends[office]]
        self.counts[office][office] += 1

    def meet(self, lot):
        """Each copy of some offices does what another one of them has done and it has not."""
        known = [[self.counts[office][number] for office in lot] for number in range(len(self.ends))]
        totals = [max(counts, default=0) for counts in known]
        for office in lot:
            counts = self.counts[office]
            missing = [ends for number, place, ends in self.done if counts[number] <= place < totals[number]]
            for ends in missing:
                self.ends[office] = ends[self.ends[office]]
            self.counts[office] = list(totals)


def replay(store, state, events):
    """What becomes of the copies in operations and meetings of some offices, one after another."""
    check_state(store, state)
    check_events(store, events)
    copies = Copies(store, state)
    for event in events:
        if isinstance(event, tuple):
            copies.meet(event)
        else:
            copies.act(event)
    counts = tuple([tuple(row) for row in copies.counts])
    return Replay(counts, tuple(copies.ends), tuple(copies.answers))


def check_events(store, events):
    """Raises unless any value is a tuple of names of operations and lots of offices."""
    if not isinstance(events, tuple):
        raise InvalidRun(-1)
    for at, event in enumerate(events):
        if store.office_of(event) is None and not is_lot(event, len(store.offices)):
            raise InvalidRun(at)


def stand_ins(store, state, run, many=1):
    """For each office the first of its shortest runs that lead where its own run leads, done `many` times."""
    check_state(store, state)
    check_run(store, run)
    check_number(many, MOST_TIMES + 1, "many")
    found = []
    for office in range(len(store.offices)):
        goal = after_times(store, state, own_run(store, run, office), many)
        found.append(shortest_run(store, state, goal, (office,)))
    return tuple(found)
