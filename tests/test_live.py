"""[101], [102]: live stores, and their changes."""

import random
import unittest

from sharedunseen.clashes import all_clashes, ends_hold
from sharedunseen.errors import InvalidNumber, InvalidRun, InvalidStore, Refused
from sharedunseen.live import Live
from sharedunseen.stores import Store
from tests.sorts import all_sorts, smooth_stores
from tests.support import Alike, Odd, Touchy, all_ops, big_store, done, error_of, many_stores, names_in, not_names
from tests.support import not_numbers, not_tuples
from tests.test_notices import noticed_by_words

STORE = Store(3, ((("a", (1, 2, 0), (0, 1, 2)),), (("b", (0, 0, 2), (0, 0, 1)), ("c", (1, 1, 1), (5, 5, 5))), ()))


class Told:
    """A live store by its words: each copy has a set of places of the history that it has done."""

    def __init__(self, store, state):
        self.store, self.start = store, state
        self.history, self.answers = [], []
        self.copies = [state for _ in store.offices]
        self.sets = [set() for _ in store.offices]

    def apply(self, taker, places):
        table = all_ops(self.store)
        for place in sorted(places):
            self.copies[taker] = table[self.history[place]][1][self.copies[taker]]
        self.sets[taker] |= set(places)
        return tuple(self.history[place] for place in sorted(places))

    def do(self, name):
        office, _, told = all_ops(self.store)[name]
        self.history.append(name)
        self.answers.append(told[self.copies[office]])
        self.apply(office, [len(self.history) - 1])
        return self.answers[-1]

    def hand(self, giver, taker):
        return self.apply(taker, self.sets[giver] - self.sets[taker])

    def mend(self):
        for office in range(len(self.copies)):
            self.apply(office, set(range(len(self.history))) - self.sets[office])

    def known(self, office):
        table = all_ops(self.store)
        owners = [table[self.history[place]][0] for place in self.sets[office]]
        return tuple(owners.count(k) for k in range(len(self.copies)))

    def is_whole(self):
        return all(len(places) == len(self.history) for places in self.sets)

    def noticing(self):
        end, right = done(self.store, self.start, self.history)
        table = all_ops(self.store)
        for place, name in enumerate(self.history):
            if self.answers[place] != right[place]:
                return ("answers", place, table[name][0])
        for office, state in enumerate(self.copies):
            if self.is_whole() and state != end:
                return ("ends", len(self.history), office)
        return None

    def turn(self, offices):
        return Told(Store(self.store.size, offices), self.copies[0])

    def view(self):
        return (self.store.offices, self.start, tuple(self.history), tuple(self.answers), tuple(self.copies),
                tuple(self.known(k) for k in range(len(self.copies))), self.is_whole(),
                done(self.store, self.start, self.history)[0], self.noticing())


def view_of(live):
    """All that the methods of a live store tell."""
    offices = live.present().offices
    return (offices, live.start(), live.history(), live.told(), live.copy_states(),
            tuple(live.known(k) for k in range(len(offices))), live.is_whole(), live.single(), live.noticing())


def some_operation(rng, store, name):
    if store.names() and rng.randrange(2):
        _, ends, told = rng.choice([op for row in store.offices for op in row])
    else:
        ends, told = (tuple(rng.randrange(store.size) for _ in range(store.size)) for _ in "ab")
    return (name, ends, told)


class LiveTest(unittest.TestCase):

    def step(self, rng, live, told):
        """One call on both, with equal answers."""
        names = names_in(told.store)
        many = len(told.copies)
        sort = rng.randrange(8)
        if sort < 4 and names:
            name = rng.choice(names)
            self.assertEqual(live.do(name), told.do(name))
        elif sort < 7:
            giver, taker = rng.randrange(many), rng.randrange(many)
            self.assertEqual(live.hand(giver, taker), told.hand(giver, taker))
        else:
            self.assertIsNone(live.mend())
            told.mend()

    def test_by_its_words(self):
        rng = random.Random(281)
        sorts = set()
        for store in all_sorts(282, 120):
            state = rng.randrange(store.size)
            live, told = Live(store, state), Told(store, state)
            self.assertEqual(view_of(live), told.view())
            for step in range(14):
                self.step(rng, live, told)
                self.assertEqual(live.changes(), step + 1)
                self.assertEqual(view_of(live), told.view())
                sorts.add(live.noticing() and live.noticing()[0])
            self.assertEqual(live.present(), store)
        self.assertEqual(sorts, {None, "answers", "ends"})

    def test_one_cut(self):
        """Behind a cut that is mended all is as [21] tells."""
        rng = random.Random(283)
        for store in many_stores(284, 200):
            names = names_in(store)
            run = tuple(rng.choice(names) for _ in range(rng.randrange(6))) if names else ()
            state = rng.randrange(store.size)
            live = Live(store, state)
            for name in run:
                live.do(name)
            live.mend()
            self.assertEqual(live.noticing(), noticed_by_words(store, state, run))

    def test_smooth_stores(self):
        """Copies that know the same are equal in smooth stores, where each weaving of what they know leads."""
        rng = random.Random(285)
        for store in list(smooth_stores(286, 60)) + list(many_stores(287, 150)):
            live = Live(store, rng.randrange(store.size))
            told = Told(store, live.start())
            for _ in range(14):
                self.step(rng, live, told)
                for one, known in enumerate(told.sets):
                    run = [told.history[place] for place in sorted(known)]
                    if ends_hold(store):
                        self.assertEqual(live.copy_states()[one], done(store, live.start(), run)[0])

    def test_unlike_copies(self):
        """In a store that is not smooth two copies that know the same may be unlike: behind a clash of ends."""
        for store in many_stores(288, 200):
            clashes = [clash for clash in all_clashes(store) if clash[3] == "ends"]
            if clashes:
                one, other, state, _ = clashes[0]
                live = Live(store, state)
                live.do(one)
                live.do(other)
                live.mend()
                self.assertEqual(live.known(store.office_of(one)), live.known(store.office_of(other)))
                self.assertNotEqual(*[live.copy_states()[store.office_of(name)] for name in (one, other)])

    def test_methods_alone(self):
        live = Live(STORE, 0)
        self.assertEqual([name for name in vars(live) if not name.startswith("_")], [])

    def test_handed_on(self):
        """What was handed to one copy is handed on with its own, in the order in which it was done."""
        live = Live(STORE, 0)
        self.assertEqual([live.do("a"), live.do("c"), live.do("a"), live.do("b")], [0, 5, 1, 0])
        self.assertEqual(live.copy_states(), (2, 0, 0))
        self.assertEqual(live.hand(0, 2), ("a", "a"))
        self.assertEqual(live.hand(2, 1), ("a", "a"))
        self.assertEqual(live.hand(1, 0), ("c", "b"))
        self.assertEqual(live.hand(giver=1, taker=2), ("c", "b"))
        self.assertEqual(live.hand(1, 1), ())
        self.assertEqual([live.known(office=k) for k in range(3)], [(2, 2, 0)] * 3)
        self.assertTrue(live.is_whole())
        self.assertEqual(live.history(), ("a", "c", "a", "b"))
        self.assertEqual(live.told(), (0, 5, 1, 0))

    def test_errors(self):
        live = Live(store=STORE, state=1)
        live.do("a")
        before = view_of(live)
        for name in not_names() + ["x", ("a",)]:
            self.assertEqual(error_of(self, InvalidRun, live.do, name).at, 0)
            self.assertEqual(error_of(self, InvalidRun, live.take_operation, name).at, 0)
        for office in not_numbers() + [3]:
            self.assertEqual(error_of(self, InvalidNumber, live.hand, office, None).word, "giver")
            self.assertEqual(error_of(self, InvalidNumber, live.hand, 2, office).word, "taker")
            self.assertEqual(error_of(self, InvalidNumber, live.known, office).word, "office")
            self.assertEqual(error_of(self, InvalidNumber, live.take_office, office).word, "office")
            self.assertEqual(error_of(self, InvalidNumber, live.put_operation, office, None, at=9).word, "office")
        self.assertEqual(view_of(live), before)
        self.assertEqual(live.changes(), 1)

    def test_long_histories(self):
        live = Live(big_store(), 0)
        names = big_store().names()
        for step in range(10000):
            live.do(names[step % 40])
            live.hand(step % 8, (step + 3) % 8)
            live.noticing()
            live.is_whole()
            live.single()
        self.assertEqual(len(live.history()), 10000)
        live.mend()
        self.assertEqual(set(live.copy_states()), {live.single()})
        for _ in range(20001):
            live.undo()
        self.assertEqual(view_of(live), view_of(Live(big_store(), 0)))


class ChangesTest(unittest.TestCase):

    def differences(self, old, new):
        """The clashes of `new` that are none of `old`."""
        known = set(all_clashes(old))
        return tuple(clash for clash in all_clashes(new) if clash not in known)

    def change(self, rng, live, fresh):
        """Any change of the store, its result, and the store that is expected."""
        store = live.present()
        rows = list(store.offices)
        office = rng.randrange(len(rows))
        sort = rng.randrange(4)
        if sort == 0:
            operation = some_operation(rng, store, fresh)
            at = rng.choice([None] + list(range(len(rows[office]) + 1)))
            place = len(rows[office]) if at is None else at
            rows[office] = rows[office][:place] + (operation,) + rows[office][place:]
            return live.put_operation(office, operation, at=at), tuple(rows)
        if sort == 1 and len(rows) < 8:
            row = (some_operation(rng, store, fresh),) if rng.randrange(3) else ()
            at = rng.choice([None] + list(range(len(rows) + 1)))
            rows.insert(len(rows) if at is None else at, row)
            return live.put_office(row, at=at), tuple(rows)
        if sort == 2 and store.names():
            name = rng.choice(store.names())
            return live.take_operation(name), tuple(tuple(op for op in row if op[0] != name) for row in rows)
        if sort == 3 and len(rows) > 2:
            return live.take_office(office), tuple(rows[:office] + rows[office + 1:])
        return None, tuple(rows)

    def test_changes(self):
        rng = random.Random(291)
        some = 0
        for store in many_stores(292, 150):
            live = Live(store, rng.randrange(store.size))
            for step in range(5):
                old = live.present()
                for name in names_in(old)[:2]:
                    live.do(name)
                live.mend()
                before = view_of(live), live.changes()
                if len(set(live.copy_states())) > 1:
                    self.assertEqual(error_of(self, Refused, live.put_office, ()).word, "cut")
                    self.assertEqual((view_of(live), live.changes()), before)
                    break
                told, rows = self.change(rng, live, "new" + "abcde"[step])
                if told is None:
                    self.assertEqual((view_of(live), live.changes()), before)
                    continue
                new = live.present()
                self.assertEqual(new, Store(store.size, rows))
                grown = sum(map(len, new.offices)) > sum(map(len, old.offices)) or len(new.offices) > len(old.offices)
                self.assertEqual(told, self.differences(old, new) if grown else self.differences(new, old))
                some += len(told) > 0
                self.assertEqual(live.changes(), before[1] + 1)
                self.assertEqual(view_of(live), Told(new, before[0][4][0]).view())
                live.undo()
                self.assertEqual((view_of(live), live.changes()), before)
                self.change(random.Random(step), live, "x" + "abcde"[step])
        self.assertGreater(some, 50)

    def test_undo(self):
        """Undoing leads back through all that was, step by step."""
        rng = random.Random(293)
        for store in all_sorts(294, 80):
            live = Live(store, rng.randrange(store.size))
            states = [view_of(live)]
            for step in range(25):
                sort = rng.randrange(6)
                names = names_in(live.present())
                many = len(live.copy_states())
                try:
                    if sort < 2 and names:
                        live.do(rng.choice(names))
                    elif sort == 2:
                        live.hand(rng.randrange(many), rng.randrange(many))
                    elif sort == 3:
                        live.mend()
                    elif sort == 4 and len(states) > 1:
                        self.assertIsNone(live.undo())
                        states.pop()
                        states.pop()
                    elif self.change(rng, live, "n" + "abcdefghijklmnopqrstuvwxyz"[step])[0] is None:
                        continue
                    states.append(view_of(live))
                except Refused as error:
                    self.assertEqual(error.word, "cut")
                self.assertEqual(view_of(live), states[-1])
                self.assertEqual(live.changes(), len(states) - 1)
            while len(states) > 1:
                live.undo()
                states.pop()
                self.assertEqual(view_of(live), states[-1])
            self.assertEqual(error_of(self, Refused, live.undo).word, "undo")
            self.assertEqual(live.changes(), 0)

    def test_indices(self):
        live = Live(STORE, 2)
        new = ("n", (0, 1, 2), (0, 0, 0))
        for at in not_numbers() + [3, 10 ** 30]:
            if at is not None:
                self.assertEqual(error_of(self, InvalidNumber, live.put_operation, 1, None, at=at).word, "at")
        for at in not_numbers() + [4, 10 ** 30]:
            if at is not None:
                self.assertEqual(error_of(self, InvalidNumber, live.put_office, None, at=at).word, "at")
        for at, place in ((0, 0), (1, 1), (2, 2), (None, 2)):
            live.put_operation(office=1, operation=new, at=at)
            self.assertEqual(live.present().offices[1].index(new), place)
            live.undo()
        live.put_operation(1, new)
        self.assertEqual(live.present().offices[1][2], new)
        live.undo()
        for at, place in ((0, 0), (3, 3), (None, 3)):
            live.put_office(operations=(new,), at=at)
            self.assertEqual(live.present().offices[place], (new,))
            self.assertEqual(live.copy_states(), (2, 2, 2, 2))
            live.undo()
        with self.assertRaises(TypeError):
            live.put_operation(1, new, 0)
        with self.assertRaises(TypeError):
            live.put_office((new,), 0)

    def test_wrong_stores(self):
        live = Live(STORE, 0)
        wrong = not_tuples() + [(), ("n", (0, 1, 2)), ("n", (0, 1, 3), (0, 0, 0)), ("n", (0, 1, 2), (0, 0, -1)), ("N", (0, 1, 2), (0, 0, 0))]
        for value in wrong + [Odd(), Alike(), Touchy()]:
            self.assertEqual(error_of(self, InvalidStore, live.put_operation, 2, value).at, 2)
            self.assertEqual(error_of(self, InvalidStore, live.put_operation, 0, value, at=1).at, 0)
            if value.__class__ is not tuple or value:
                self.assertEqual(error_of(self, InvalidStore, live.put_office, value, at=1).at, 1)
            self.assertEqual(error_of(self, InvalidStore, live.put_office, (value,)).at, 3)
        same = ("b", (0, 1, 2), (0, 0, 0))
        self.assertEqual(error_of(self, InvalidStore, live.put_operation, 0, same).at, 1)
        self.assertEqual(error_of(self, InvalidStore, live.put_operation, 2, same).at, 2)
        self.assertEqual(error_of(self, InvalidStore, live.put_office, (same,), at=0).at, 2)
        self.assertEqual(error_of(self, InvalidStore, live.put_office, (same,)).at, 3)
        self.assertEqual(live.changes(), 0)

    def test_limits(self):
        full = Live(big_store(), 0)
        new = ("n", (0,) * 200, (0,) * 200)
        self.assertEqual(error_of(self, InvalidStore, full.put_operation, 0, new).at, 8)
        self.assertEqual(error_of(self, InvalidStore, full.put_office, ()).at, 9)
        self.assertEqual(error_of(self, InvalidStore, full.put_office, (new,), at=0).at, 9)
        two = Live(Store(3, STORE.offices[:2]), 0)
        self.assertEqual(error_of(self, InvalidStore, two.take_office, 0).at, 1)
        self.assertEqual(two.take_operation("a"), all_clashes(Store(3, STORE.offices[:2])))
        last = set(names_in(big_store(), [7]))
        self.assertEqual(full.take_office(7), tuple(clash for clash in all_clashes(big_store()) if last & set(clash[:2])))
        self.assertEqual(full.put_operation(0, new), self.differences(big_store(offices=8), full.present()))

    def test_refused_cuts(self):
        """Errors come before a cut that is not whole, and the cut before the change."""
        live = Live(STORE, 0)
        live.do("a")
        self.assertFalse(live.is_whole())
        new = ("n", (0, 1, 2), (0, 0, 0))
        for call, args in ((live.put_operation, (0, new)), (live.put_office, ((),)), (live.take_operation, ("a",)), (live.take_office, (2,))):
            self.assertEqual(error_of(self, Refused, call, *args).word, "cut")
        self.assertEqual(error_of(self, InvalidStore, live.put_operation, 0, None).at, 0)
        self.assertEqual(error_of(self, InvalidRun, live.take_operation, "x").at, 0)
        self.assertEqual(error_of(self, InvalidNumber, live.take_office, 3).word, "office")
        live.do("c")
        live.mend()
        self.assertTrue(live.is_whole())
        self.assertEqual(live.copy_states(), (1, 2, 1))
        self.assertEqual(error_of(self, Refused, live.put_office, ()).word, "cut")
        self.assertEqual(live.changes(), 3)
        self.assertEqual(live.noticing(), ("ends", 2, 1))
        two = Live(Store(3, STORE.offices[:2]), 0)
        two.do("a")
        self.assertEqual(error_of(self, InvalidStore, two.take_office, 0).at, 1)

    def test_history_begins_anew(self):
        live = Live(STORE, 0)
        live.do("a")
        live.mend()
        self.assertEqual(live.take_office(2), ())
        self.assertEqual((live.start(), live.history(), live.told(), live.single()), (1, (), (), 1))
        self.assertEqual((live.known(0), live.copy_states(), live.is_whole()), ((0, 0), (1, 1), True))
        live.undo()
        self.assertEqual((live.start(), live.history(), live.told(), live.single()), (0, ("a",), (0,), 1))
        self.assertEqual((live.known(2), live.copy_states(), live.is_whole()), ((1, 0, 0), (1, 1, 1), True))
        live.undo()
        live.undo()
        self.assertEqual((live.history(), live.copy_states(), live.changes()), ((), (0, 0, 0), 0))
        self.assertEqual(error_of(self, Refused, live.undo).word, "undo")


if __name__ == "__main__":
    unittest.main()
