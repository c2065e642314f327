"""Stores that are in use: copies that are changed, told to each other and mended, and stores that are changed."""

from sharedunseen.checks import check_number, check_office
from sharedunseen.clashes import all_clashes
from sharedunseen.errors import InvalidNumber, InvalidRun, Refused
from sharedunseen.kinds import is_below
from sharedunseen.stores import Store


class Era:
    """What is done in one store from one state on, in the order in which it is done."""

    def __init__(self, store, state):
        self.store = store
        self.state = state
        self.run = []
        self.answers = []
        self.singles = [state]
        self.misses = []
        self.places = [[] for _ in store.offices]

    def add_done(self, name, answer):
        """Adds an operation that gave an answer on the copy of its office."""
        _, ends, answers = self.store.operation(name)
        if answers[self.singles[-1]] != answer:
            self.misses.append(len(self.run))
        self.places[self.store.office_of(name)].append(len(self.run))
        self.run.append(name)
        self.answers.append(answer)
        self.singles.append(ends[self.singles[-1]])

    def cut_to(self, length):
        """Forgets what was done behind the first `length` operations."""
        while len(self.run) > length:
            name = self.run.pop()
            self.answers.pop()
            self.singles.pop()
            self.places[self.store.office_of(name)].pop()
            if self.misses and self.misses[-1] == len(self.run):
                self.misses.pop()

    def totals(self):
        """How many operations of each office are done."""
        return tuple([len(places) for places in self.places])

    def between(self, low, high):
        """The run of the operations that are done within `high` and not within `low`, counts of each office."""
        places = [place for row, fewer, more in zip(self.places, low, high) for place in row[fewer:more]]
        return tuple([self.run[place] for place in sorted(places)])


class Live:
    """A store in use, with a copy for each office."""

    def __init__(self, store, state):
        self._past = []
        self._era = Era(store, state)
        self._here = [state] * len(store.offices)
        self._counts = [(0,) * len(store.offices)] * len(store.offices)

    def _keep(self):
        """Keeps what `undo` needs to take back the call that is going on."""
        self._past.append((self._era, len(self._era.run), list(self._here), list(self._counts)))

    def do(self, name):
        """Does an operation on the copy of its office, and returns its answer."""
        office = self._era.store.office_of(name)
        if office is None:
            raise InvalidRun(0)
        self._keep()
        _, ends, answers = self._era.store.operation(name)
        answer = answers[self._here[office]]
        self._here[office] = ends[self._here[office]]
        self._era.add_done(name, answer)
        known = self._counts[office]
        self._counts[office] = with_item(known, office, known[office] + 1)
        return answer

    def _catch_up(self, taker, goal):
        """Lets a copy do what it lacks of these counts of each office, and returns this run."""
        high = tuple([max(pair) for pair in zip(self._counts[taker], goal)])
        run = self._era.between(self._counts[taker], high)
        for name in run:
            self._here[taker] = self._era.store.operation(name)[1][self._here[taker]]
        self._counts[taker] = high
        return run

    def hand(self, giver, taker):
        """Lets the copy of one office do what that of another one has done, and returns this run."""
        many = len(self._here)
        check_number(giver, many, "giver")
        check_number(taker, many, "taker")
        self._keep()
        return self._catch_up(taker, self._counts[giver])

    def mend(self):
        """Lets each copy do all that it has not done."""
        self._keep()
        for office in range(len(self._here)):
            self._catch_up(office, self._era.totals())

    def present(self):
        """The store as it is now."""
        return self._era.store

    def start(self):
        """The state in which all copies were at first."""
        return self._era.state

    def history(self):
        """The run of all that was done."""
        return tuple(self._era.run)

    def told(self):
        """The answers that were given."""
        return tuple(self._era.answers)

    def copy_states(self):
        """The states of the copies."""
        return tuple(self._here)

    def known(self, office):
        """How many operations of each office the copy of an office has done."""
        check_office(self._era.store, office)
        return self._counts[office]

    def single(self):
        """Where the history leads the first state."""
        return self._era.singles[-1]

    def is_whole(self):
        """Whether each copy has done all."""
        totals = self._era.totals()
        return all([counts == totals for counts in self._counts])

    def noticing(self):
        """The first that tells the copies from a single store, or None."""
        if self._era.misses:
            place = self._era.misses[0]
            return ("answers", place, self._era.store.office_of(self._era.run[place]))
        if self.is_whole():
            for office, state in enumerate(self._here):
                if state != self.single():
                    return ("ends", len(self._era.run), office)
        return None

    def put_operation(self, office, operation, *, at=None):
        """Gives an office an operation, and returns the new clashes."""
        check_office(self._era.store, office)
        row = self._era.store.offices[office]
        place = checked_place(at, len(row))
        return self._grow(with_item(self._era.store.offices, office, row[:place] + (operation,) + row[place:]))

    def put_office(self, operations, *, at=None):
        """Adds an office with some operations, and returns the new clashes."""
        rows = self._era.store.offices
        place = checked_place(at, len(rows))
        return self._grow(rows[:place] + (operations,) + rows[place:])

    def take_operation(self, name):
        """Takes an operation away, and returns the clashes that hold no longer."""
        store = self._era.store
        office = store.office_of(name)
        if office is None:
            raise InvalidRun(0)
        row = tuple([operation for operation in store.offices[office] if operation[0] != name])
        return self._shrink(with_item(store.offices, office, row))

    def take_office(self, office):
        """Takes an office away, and returns the clashes that hold no longer."""
        check_office(self._era.store, office)
        rows = self._era.store.offices
        return self._shrink(rows[:office] + rows[office + 1:])

    def _grow(self, offices):
        """Goes on with more offices or operations, and returns the clashes that did not hold before."""
        old = self._era.store
        self._turn_to(offices)
        return beyond(all_clashes(self._era.store), all_clashes(old))

    def _shrink(self, offices):
        """Goes on with fewer offices or operations, and returns the clashes that hold no longer."""
        old = self._era.store
        self._turn_to(offices)
        return beyond(all_clashes(old), all_clashes(self._era.store))

    def _turn_to(self, offices):
        """Goes on with other offices from the state in which all copies are."""
        store = Store(self._era.store.size, offices)
        state = self._here[0]
        if not self.is_whole() or self._here != [state] * len(self._here):
            raise Refused("cut")
        self._keep()
        self._era = Era(store, state)
        self._here = [state] * len(offices)
        self._counts = [(0,) * len(offices)] * len(offices)

    def undo(self):
        """Takes back the last call that changed something and is not taken back."""
        if not self._past:
            raise Refused("undo")
        self._era, length, self._here, self._counts = self._past.pop()
        self._era.cut_to(length)

    def changes(self):
        """How many calls there are to take back."""
        return len(self._past)


def checked_place(at, many):
    """The index at which something is put in, the last one for None."""
    if at is None:
        return many
    if not is_below(at, many + 1):
        raise InvalidNumber("at")
    return at


def with_item(items, at, item):
    """The tuple with another item at an index."""
    return items[:at] + (item,) + items[at + 1:]


def beyond(clashes, known):
    """The clashes that are not among the known ones, in their order."""
    among = {clash: True for clash in known}
    return tuple([clash for clash in clashes if clash not in among])
