"""Stores that are in use: copies that are changed, told to each other and mended, and stores that are changed."""

from sharedunseen.checks import check_number, check_office
from sharedunseen.clashes import all_clashes
from sharedunseen.errors import InvalidNumber, InvalidRun, Refused
from sharedunseen.kinds import is_below
from sharedunseen.stores import Store


class Era:
    """What is done in one store from one state on, in the order in which it is done."""

    def __init__(self, store, state):
        self.store = store
        self.state = state
        self.run = []
        self.answers = []
        self.singles = [state]
        self.misses = []
        self.places = [[] for _ in store.offices]

    def add_done(self, name, answer):
        """Adds an operation that gave an answer on the copy of its office."""
        _, ends, answers = self.store.operation(name)
        if answers[self.singles[-1]] != answer:
            self.misses.append(len(self.run))
        self.places[self.store.office_of(name)].append(len(self.run))
        self.run.append(name)
        self.answers.append(answer)
        self.singles.append(ends[self.singles[-1]])

    def cut_to(self, length):
        """Forgets what was done behind the first `length` operations."""
        while len(self.run) > length:
            name = self.run.pop()
            self.answers.pop()
            self.singles.pop()
            self.places[self.store.office_of(name)].pop()
            if self.misses and self.misses[-1] == len(self.run):
                self.misses.pop()

    def totals(self):
        """How many operations of each office are done."""
        return tuple([len(places) for places in self.places])

    def between(self, low, high):
        """The run of the operations that are done within `high` and not within `low`, counts of each office."""
        places = [place for row, fewer, more in zip(self.places, low, high) for place in row[fewer:more]]
        return tuple([self.run[place] for place in sorted(places)])


class Live:
    """A store in use, with a copy for each office."""

    def __init__(self, store, state):
        self.past = []
        self.era = Era(store, state)
        self.here = [state] * len(store.offices)
        self.counts = [(0,) * len(store.offices)] * len(store.offices)

    def keep(self):
        """Keeps what `undo` needs to take back the call that is going on."""
        self.past.append((self.era, len(self.era.run), list(self.here), list(self.counts)))

    def do(self, name):
        """Does an operation on the copy of its office, and returns its answer."""
        office = self.era.store.office_of(name)
        if office is None:
            raise InvalidRun(0)
        self.keep()
        _, ends, answers = self.era.store.operation(name)
        answer = answers[self.here[office]]
        self.here[office] = ends[self.here[office]]
        self.era.add_done(name, answer)
        known = self.counts[office]
        self.counts[office] = with_item(known, office, known[office] + 1)
        return answer

    def catch_up(self, taker, goal):
        """Lets a copy do what it lacks of these counts of each office, and returns this run."""
        high = tuple([max(pair) for pair in zip(self.counts[taker], goal)])
        run = self.era.between(self.counts[taker], high)
        for name in run:
            self.here[taker] = self.era.store.operation(name)[1][self.here[taker]]
        self.counts[taker] = high
        return run

    def hand(self, giver, taker):
        """Lets the copy of one office do what that of another one has done, and returns this run."""
        many = len(self.here)
        check_number(giver, many, "giver")
        check_number(taker, many, "taker")
        self.keep()
        return self.catch_up(taker, self.counts[giver])

    def mend(self):
        """Lets each copy do all that it has not done."""
        self.keep()
        for office in range(len(self.here)):
            self.catch_up(office, self.era.totals())

    def present(self):
        """The store as it is now."""
        return self.era.store

    def start(self):
        """The state in which all copies were at first."""
        return self.era.state

    def history(self):
        """The run of all that was done."""
        return tuple(self.era.run)

    def told(self):
        """The answers that were given."""
        return tuple(self.era.answers)

    def copy_states(self):
        """The states of the copies."""
        return tuple(self.here)

    def known(self, office):
        """How many operations of each office the copy of an office has done."""
        check_office(self.era.store, office)
        return self.counts[office]

    def single(self):
        """Where the history leads the first state."""
        return self.era.singles[-1]

    def is_whole(self):
        """Whether each copy has done all."""
        totals = self.era.totals()
        return all([counts == totals for counts in self.counts])

    def noticing(self):
        """The first that tells the copies from a single store, or None."""
        if self.era.misses:
            place = self.era.misses[0]
            return ("answers", place, self.era.store.office_of(self.era.run[place]))
        if self.is_whole():
            for office, state in enumerate(self.here):
                if state != self.single():
                    return ("ends", len(self.era.run), office)
        return None

    def put_operation(self, office, operation, *, at=None):
        """Gives an office an operation, and returns the new clashes."""
        check_office(self.era.store, office)
        row = self.era.store.offices[office]
        place = checked_place(at, len(row))
        return self.grow(with_item(self.era.store.offices, office, row[:place] + (operation,) + row[place:]))

    def put_office(self, operations, *, at=None):
        """Adds an office with some operations, and returns the new clashes."""
        rows = self.era.store.offices
        place = checked_place(at, len(rows))
        return self.grow(rows[:place] + (operations,) + rows[place:])

    def take_operation(self, name):
        """Takes an operation away, and returns the clashes that hold no longer."""
        store = self.era.store
        office = store.office_of(name)
        if office is None:
            raise InvalidRun(0)
        row = tuple([operation for operation in store.offices[office] if operation[0] != name])
        return self.shrink(with_item(store.offices, office, row))

    def take_office(self, office):
        """Takes an office away, and returns the clashes that hold no longer."""
        check_office(self.era.store, office)
        rows = self.era.store.offices
        return self.shrink(rows[:office] + rows[office + 1:])

    def grow(self, offices):
        """Goes on with more offices or operations, and returns the clashes that did not hold before."""
        old = self.era.store
        self.turn_to(offices)
        return beyond(all_clashes(self.era.store), all_clashes(old))

    def shrink(self, offices):
        """Goes on with fewer offices or operations, and returns the clashes that hold no longer."""
        old = self.era.store
        self.turn_to(offices)
        return beyond(all_clashes(old), all_clashes(self.era.store))

    def turn_to(self, offices):
        """Goes on with other offices from the state in which all copies are."""
        store = Store(self.era.store.size, offices)
        state = self.here[0]
        if not self.is_whole() or self.here != [state] * len(self.here):
            raise Refused("cut")
        self.keep()
        self.era = Era(store, state)
        self.here = [state] * len(offices)
        self.counts = [(0,) * len(offices)] * len(offices)

    def undo(self):
        """Takes back the last call that changed something and is not taken back."""
        if not self.past:
            raise Refused("undo")
        self.era, length, self.here, self.counts = self.past.pop()
        self.era.cut_to(length)

    def changes(self):
        """How many calls there are to take back."""
        return len(self.past)


def checked_place(at, many):
    """The index at which something is put in, the last one for None."""
    if at is None:
        return many
    if not is_below(at, many + 1):
        raise InvalidNumber("at")
    return at


def with_item(items, at, item):
    """The tuple with another item at an index."""
    return items[:at] + (item,) + items[at + 1:]


def beyond(clashes, known):
    """The clashes that are not among the known ones, in their order."""
    among = {clash: True for clash in known}
    return tuple([clash for clash in clashes if clash not in among])
