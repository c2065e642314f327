"""[48], [49], [50]: names of states."""

import random
import unittest

from sharedunseen import names
from sharedunseen.cards import pack
from sharedunseen.errors import Refused
from sharedunseen.groups import check_table
from sharedunseen.homes import homes
from sharedunseen.stores import Store
from tests.sorts import is_reversible, is_unseen, random_run, whole_stores
from tests.support import Alike, Odd, Touchy, big_store, done, error_of, many_stores, names_in, not_numbers, not_tuples
from tests.support import odd_things
from tests.test_shared import BOTH, ONEWAY, SEEN

PARTS = ("owns", "others", "shares", "table", "left", "right", "answers")


def parts_of(value):
    return {part: getattr(value, part) for part in PARTS}


def are_names_by_words(store, told):
    """Whether names of plain kinds are names of the store, by [48]."""
    own, other, many = max(told["owns"]) + 1, max(told["others"]) + 1, len(told["table"])
    if told["owns"] != homes(store, 1) or told["others"] != homes(store, 0) or len(store.offices) != 2:
        return False
    triples = list(zip(told["owns"], told["shares"], told["others"]))
    if sorted(triples) != [(p, g, q) for p in range(own) for g in range(many) for q in range(other)]:
        return False
    keys = [[name for name, _, _ in row] for row in store.offices]
    if [list(told["left"]), list(told["right"]), list(told["answers"])] != [keys[0], keys[1], keys[0] + keys[1]]:
        return False
    if {len(row) for row in told["left"].values()} - {own} or {len(row) for row in told["right"].values()} - {other}:
        return False
    for name, ends, heard in store.offices[0]:
        for state, (p, g, q) in enumerate(triples):
            r, c = told["left"][name][p]
            if triples[ends[state]] != (r, told["table"][c][g], q) or told["answers"][name][p:p + 1] != (heard[state],):
                return False
        if len(told["answers"][name]) != own:
            return False
    for name, ends, heard in store.offices[1]:
        for state, (p, g, q) in enumerate(triples):
            d, t = told["right"][name][q]
            if triples[ends[state]] != (p, told["table"][g][d], t) or told["answers"][name][q:q + 1] != (heard[state],):
                return False
        if len(told["answers"][name]) != other:
            return False
    return True


def changed_rows(row, items):
    """The tuple with one item changed, left out or added."""
    for at in range(len(row)):
        for item in items:
            yield row[:at] + (item,) + row[at + 1:]
    yield row[:-1]
    yield row + row[-1:]
    yield list(row)


class NamesTest(unittest.TestCase):

    def test_by_their_words(self):
        seen = set()
        for store in whole_stores(351, 150):
            told = names.names_of(store)
            self.assertIs(told.__class__, names.Names)
            self.assertTrue(are_names_by_words(store, parts_of(told)))
            check_table(told.table)
            self.assertIs(names.check_names(store, told), True)
            self.assertEqual(names.store_of(told), store)
            for state in range(store.size):
                name = names.name_of(told, state)
                self.assertEqual(name, (told.owns[state], told.shares[state], told.others[state]))
                self.assertEqual(names.state_of(told, name), state)
            seen.add((max(told.owns), len(told.table), max(told.others)))
        self.assertGreater(len(seen), 15)

    def test_exactly_unseen_reversible_stores(self):
        for store in many_stores(352, 200):
            word = "offices" if len(store.offices) > 2 else "seen" if not is_unseen(store) else "oneway"
            if word == "oneway" and is_reversible(store):
                continue
            self.assertEqual(error_of(self, Refused, names.names_of, store).word, word)
        for store in (SEEN, BOTH):
            self.assertEqual(error_of(self, Refused, names.names_of, store).word, "seen")
            wide = Store(2, store.offices + ((),))
            self.assertEqual(error_of(self, Refused, names.names_of, wide).word, "offices")
        self.assertEqual(error_of(self, Refused, names.names_of, ONEWAY).word, "oneway")
        self.assertEqual(error_of(self, Refused, names.names_of, big_store()).word, "offices")

    def test_runs(self):
        rng = random.Random(353)
        for store in whole_stores(354, 80):
            told = names.names_of(store)
            for _ in range(4):
                state = rng.randrange(store.size)
                p, g, q = names.name_of(told, state)
                run = random_run(rng, store, 5, [0])
                r, c = names.left_of(told, run, p)
                self.assertEqual(names.name_of(told, done(store, state, run)[0]), (r, told.table[c][g], q))
                run = random_run(rng, store, 5, [1])
                d, t = names.right_of(told, run, q)
                self.assertEqual(names.name_of(told, done(store, state, run)[0]), (p, told.table[g][d], t))
        told = names.names_of(pack(3))
        self.assertEqual(names.left_of(names=told, run=("pa", "pb") * 3000, own=0), (0, 0))
        self.assertEqual(names.right_of(names=told, run=("ca", "cb") * 3000, other=0), (0, 0))
        self.assertEqual((names.left_of(told, (), 0), names.right_of(told, (), 0)), ((0, 0), (0, 0)))

    def test_mirrored(self):
        for store in whole_stores(355, 80):
            told = names.names_of(store)
            other = Store(store.size, store.offices[::-1])
            turned = names.mirrored(told)
            self.assertTrue(are_names_by_words(other, parts_of(turned)))
            self.assertIs(names.check_names(other, turned), True)
            self.assertEqual(turned.table, told.table)
            self.assertEqual(turned.shares, tuple(told.table[share].index(0) for share in told.shares))
            self.assertEqual(names.store_of(turned), other)
            self.assertEqual(parts_of(names.mirrored(turned)), parts_of(told))
            self.assertEqual(list(names.mirrored(turned).answers), list(told.answers))

    def test_one_part_changed(self):
        verdicts = [0, 0]
        for store in whole_stores(356, 25, size=12):
            told = names.names_of(store)
            for part, row in self.changes(store, told):
                parts = parts_of(told)
                parts[part] = row
                good = self.are_plain(parts, store) and are_names_by_words(store, parts)
                self.assertIs(names.check_names(store, names.Names(**parts)), good, (part, row))
                verdicts[good] += 1
        self.assertGreater(verdicts[False], 1000)

    def are_plain(self, parts, store):
        """Whether all are of the kinds that are asked, apart from lengths."""
        many = len(parts["table"])

        def numbers(row, end):
            return isinstance(row, tuple) and all(item.__class__ is int and 0 <= item < end for item in row)
        if not all(numbers(parts[part], store.size) and len(parts[part]) == store.size for part in PARTS[:3]):
            return False
        if not isinstance(parts["table"], tuple) or not all(numbers(row, many) and len(row) == many for row in parts["table"]):
            return False
        for part in ("left", "right"):
            rows = parts[part].values()
            if not all(isinstance(row, tuple) and all(numbers(pair, store.size) and len(pair) == 2 for pair in row) for row in rows):
                return False
        if not all(pair[1] < many for row in parts["left"].values() for pair in row):
            return False
        if not all(pair[0] < many for row in parts["right"].values() for pair in row):
            return False
        return all(numbers(row, 10 ** 12 + 1) for row in parts["answers"].values())

    def changes(self, store, told):
        """Pairs of a part and another value of it."""
        for part in ("owns", "others", "shares"):
            for row in changed_rows(getattr(told, part), [0, 1, 2, True, None, -1]):
                yield part, row
        for row in changed_rows(told.table, [told.table[0], told.table[-1], None, ()]):
            yield "table", row
        for part in ("left", "right"):
            rows = getattr(told, part)
            for name in rows:
                for pairs in changed_rows(rows[name], [(0, 0), (1, 0), (0, 1), (True, 0), (0, False), (0, 0, 0), None, [0, 0], (-1, 0)]):
                    yield part, {**rows, name: pairs}
                yield part, {other: rows[other] for other in rows if other != name}
            yield part, {**rows, "zzzzz": next(iter(rows.values()), ((0, 0),))}
            yield part, {name: rows[name] for name in reversed(rows)}
        for name in told.answers:
            for row in changed_rows(told.answers[name], [0, 1, True, None, -1, 10 ** 12 + 1]):
                yield "answers", {**told.answers, name: row}
        yield "answers", {name: told.answers[name] for name in reversed(told.answers)}

    def test_any_value(self):
        store = Store(2, ((("a", (1, 0), (0, 0)),), (("b", (1, 0), (1, 1)),)))
        good = parts_of(names.names_of(store))
        odd = Odd()
        for part in PARTS:
            setattr(odd, part, good[part])
        things = odd_things() + [True, 0, (), "abc", {}, (0, 0), odd, tuple(good.values()), names.Names]
        for value in things:
            self.assertIs(names.check_names(store, value), False)
            for part in PARTS:
                changed = names.Names(**{**good, part: value})
                self.assertIs(names.check_names(store, changed), repr(value) == repr(good[part]), part)
            for part in PARTS[:4]:
                for row in changed_rows(good[part], [value]):
                    changed = names.Names(**{**good, part: row})
                    self.assertIs(names.check_names(store, changed), repr(row) == repr(good[part]))
            for part, key in (("left", "a"), ("right", "b"), ("answers", "a"), ("answers", "b")):
                for row in (value, (value,), (value, value), ((value, 0),), ((0, value),)):
                    changed = names.Names(**{**good, part: {**good[part], key: row}})
                    self.assertIs(names.check_names(store, changed), repr(row) == repr(good[part][key]), part)
        for key in (0, None, Alike("a"), ("a",), "x"):
            self.assertIs(names.check_names(store, names.Names(**{**good, "left": {key: good["left"]["a"]}})), False)
        self.assertIs(names.check_names(store=store, value=names.Names(**good)), True)

    def test_of_other_stores(self):
        stores = list(whole_stores(357, 20)) + list(whole_stores(358, 5, offices=3)) + list(many_stores(359, 40)) + [SEEN, ONEWAY, BOTH]
        values = [(store, names.names_of(store)) for store in stores[:20]]
        for store in stores + [big_store()]:
            for other, value in values:
                self.assertIs(names.check_names(store, value), store == other)
        for other, value in values:
            self.assertIs(names.check_names(Store(other.size, other.offices + ((),)), value), False)

    def test_kept_arguments(self):
        store = Store(2, ((("a", (1, 0), (0, 0)),), (("b", (1, 0), (1, 1)),)))
        good = parts_of(names.names_of(store))
        value = names.Names(*good.values())
        for part in ("left", "right", "answers"):
            good[part].clear()
        self.assertIs(names.check_names(store, value), True)
        value = names.names_of(store)
        mirrored = names.mirrored(value)
        mirrored.left.clear()
        mirrored.answers.clear()
        names.names_of(store).left.clear()
        self.assertIs(names.check_names(store, value), True)
        self.assertEqual(parts_of(names.Names(1, 2, 3, 4, 5, 6, 7)), dict(zip(PARTS, range(1, 8))))

    def test_great_answers(self):
        most = 10 ** 12
        store = Store(2, ((("a", (1, 0), (most, most)),), (("b", (0, 1), (most, most)),)))
        told = names.names_of(store)
        self.assertEqual(told.answers, {"a": (most, most), "b": (most,)})
        self.assertIs(names.check_names(store, told), True)
        for name in "ab":
            answers = {**told.answers, name: (most + 1,) * len(told.answers[name])}
            self.assertIs(names.check_names(store, names.Names(**{**parts_of(told), "answers": answers})), False)

    def test_edges(self):
        one = Store(1, ((), ()))
        told = names.names_of(store=one)
        self.assertEqual(parts_of(told), dict(zip(PARTS, ((0,), (0,), (0,), ((0,),), {}, {}, {}))))
        self.assertEqual(names.store_of(names=told), one)
        self.assertEqual(names.name_of(names=told, state=0), (0, 0, 0))
        self.assertEqual(names.state_of(names=told, name=(0, 0, 0)), 0)
        empty = Store(3, ((), (("a", (1, 2, 0), (4, 5, 6)),)))
        told = names.names_of(empty)
        self.assertEqual((told.owns, told.others, told.answers), ((0, 0, 0), (0, 1, 2), {"a": (4, 5, 6)}))
        self.assertIs(names.check_names(empty, told), True)
        for number in not_numbers():
            self.assertIs(names.check_names(empty, number), False)
        for value in not_tuples():
            self.assertIs(names.check_names(empty, names.Names(value, (0, 1, 2), (0, 0, 0), ((0,),), {}, told.right, told.answers)), False)

    def test_big(self):
        two = big_store(offices=2, operations=40)
        quiet = Store(200, tuple(tuple((n, e, (0,) * 200) for n, e, _ in row) for row in two.offices))
        told = names.names_of(quiet)
        self.assertEqual(len(told.table), 100)
        self.assertIs(names.check_names(quiet, told), True)
        self.assertEqual(names.store_of(names.mirrored(told)).offices, quiet.offices[::-1])
        parts = Store(200, ((("a", tuple((s + 1) % 200 for s in range(200)), (0,) * 200),), (("b", tuple((s + 1) % 200 for s in range(200)), (0,) * 200),)))
        self.assertIs(names.check_names(parts, names.names_of(parts)), True)
        self.assertEqual(len(names_in(quiet)), 40)
        self.assertIs(names.check_names(pack(5), names.names_of(pack(5))), True)


if __name__ == "__main__":
    unittest.main()
