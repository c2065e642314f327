"""[51], [54], [55]: names made of tables, turnings, and one form."""

import itertools
import random
import unittest

from sharedunseen import forms
from sharedunseen.bases import tree_names
from sharedunseen.cards import pack
from sharedunseen.errors import Refused
from sharedunseen.forms import Turning, made_names
from sharedunseen.groups import centre
from sharedunseen.homes import homes
from sharedunseen.matches import matches
from sharedunseen.names import Names, check_names, left_of, mirrored, name_of, names_of, right_of, state_of, store_of
from sharedunseen.powers import left_power
from sharedunseen.stores import Store, renamed, renumbered
from tests.sorts import TABLES, is_unseen, random_run, whole_stores
from tests.support import Alike, Odd, Touchy, done, error_of, errors_in_order, names_in, not_names, not_numbers, not_tuples
from tests.support import random_names, refused
from tests.test_groups import both, ring
from tests.test_names import PARTS, are_names_by_words, parts_of
from tests.test_shared import BOTH, ONEWAY, SEEN

MOST = 10 ** 12
TABLE = ring(2)
LEFT = {"a": ((1, 0), (0, 1)), "c": ((0, 0), (0, 0))}
RIGHT = {"b": ((1, 0),)}
ANSWERS = {"a": (5, MOST), "c": (0, 0), "b": (0,)}
GOOD = {"table": TABLE, "left": LEFT, "right": RIGHT, "answers": ANSWERS}


def random_parts(rng, tables=TABLES, most=4):
    """A table, factors of both offices, and answers."""
    table = rng.choice(tables)
    counts = [rng.randrange(1, most), rng.randrange(1, most)]
    names = random_names(rng, 6)
    rows = [{}, {}]
    answers = {}
    for office in (0, 1):
        for _ in range(rng.randrange(3)):
            pairs = [(rng.randrange(counts[office]), rng.randrange(len(table))) for _ in range(counts[office])]
            name = names.pop()
            rows[office][name] = tuple(pair if office == 0 else pair[::-1] for pair in pairs)
            answers[name] = tuple(rng.randrange(2) for _ in pairs)
    return {"table": table, "left": rows[0], "right": rows[1], "answers": answers}


def store_by_words(table, left, right, answers):
    """The store in which (p, g, q) has the number (p * n + g) * k + q."""
    n = len(table)
    m = len(next(iter(left.values()), (0,)))
    k = len(next(iter(right.values()), (0,)))
    states = list(itertools.product(range(m), range(n), range(k)))
    rows = [[], []]
    for name, pairs in left.items():
        moved = [(pairs[p][0], table[pairs[p][1]][g], q) for p, g, q in states]
        rows[0].append((name, tuple((r * n + h) * k + t for r, h, t in moved), tuple(answers[name][p] for p, _, _ in states)))
    for name, pairs in right.items():
        moved = [(p, table[g][pairs[q][0]], pairs[q][1]) for p, g, q in states]
        rows[1].append((name, tuple((r * n + h) * k + t for r, h, t in moved), tuple(answers[name][q] for _, _, q in states)))
    return Store(len(states), (tuple(rows[0]), tuple(rows[1]))), states


def all_reached(steps, starts):
    """Whether each start leads to each one."""
    for start in starts:
        seen, todo = {start}, [start]
        while todo:
            for there in steps(todo.pop()):
                if there not in seen:
                    seen.add(there)
                    todo.append(there)
        if len(seen) < len(starts):
            return False
    return True


def plain_names(store):
    """The store with names that tell the office and the place."""
    names = {}
    for office, row in enumerate(store.offices):
        for place, operation in enumerate(row):
            names[operation[0]] = "pq"[office] + "abcdefgh"[place]
    return renamed(store, names)


def shuffled_store(rng, store):
    order = tuple(rng.sample(range(store.size), store.size))
    return renumbered(store, order), order


def turned_by_words(one, other, value):
    """Whether tuples of the right lengths are a turning, by [54]."""
    table = other.table
    n = len(table)
    back = [row.index(0) for row in table]
    if len(one.table) != n or any(value.images[one.table[i][j]] != table[value.images[i]][value.images[j]]
                                  for i in range(n) for j in range(n)) or sorted(value.images) != list(range(n)):
        return False
    if list(one.left) != list(other.left) or list(one.right) != list(other.right):
        return False
    for parts, goal in ((value.owns, other.owns), (value.others, other.others)):
        if sorted(parts) != sorted(set(goal)):
            return False
    for name, row in one.left.items():
        for p, (r, c) in enumerate(row):
            moved = table[table[value.lefts[r]][value.images[c]]][back[value.lefts[p]]]
            if other.left[name][value.owns[p]] != (value.owns[r], moved):
                return False
            if other.answers[name][value.owns[p]] != one.answers[name][p]:
                return False
    for name, row in one.right.items():
        for q, (d, t) in enumerate(row):
            moved = table[table[back[value.rights[q]]][value.images[d]]][value.rights[t]]
            if other.right[name][value.others[q]] != (moved, value.others[t]):
                return False
            if other.answers[name][value.others[q]] != one.answers[name][q]:
                return False
    return True


class MadeNamesTest(unittest.TestCase):

    def test_by_their_words(self):
        rng = random.Random(971)
        verdicts = [0, 0]
        for _ in range(300):
            parts = random_parts(rng)
            kept = {key: dict(value) if isinstance(value, dict) else value for key, value in parts.items()}
            names = made_names(**parts)
            self.assertIs(names.__class__, Names)
            store, states = store_by_words(**parts)
            self.assertEqual(store_of(names), store)
            self.assertTrue(is_unseen(store))
            for state, name in enumerate(states):
                self.assertEqual(name_of(names, state), name)
                self.assertEqual(state_of(names, name), state)
            for key in parts:
                self.assertEqual(getattr(names, key), kept[key])
                self.assertEqual(parts[key], kept[key])
            table = parts["table"]
            shares, owns = range(len(table)), sorted(set(names.owns))
            whole = all_reached(lambda pair: [(row[pair[0]][0], table[row[pair[0]][1]][pair[1]]) for row in parts["left"].values()],
                                list(itertools.product(owns, shares)))
            whole = whole and all_reached(
                lambda pair: [(table[pair[0]][row[pair[1]][0]], row[pair[1]][1]) for row in parts["right"].values()],
                list(itertools.product(shares, sorted(set(names.others)))))
            self.assertIs(check_names(store, names), whole)
            self.assertIs(are_names_by_words(store, parts_of(names)), whole)
            verdicts[whole] += 1
        self.assertGreater(min(verdicts), 30)

    def test_functions_of_names(self):
        """The functions of [50] accept them, whatever they are names of."""
        rng = random.Random(972)
        for _ in range(150):
            parts = random_parts(rng)
            names = made_names(**parts)
            store = store_of(names)
            state = rng.randrange(store.size)
            p, g, q = name_of(names, state)
            run, other = random_run(rng, store, 5, (0,)), random_run(rng, store, 5, (1,))
            r, c = left_of(names, run, p)
            self.assertEqual(state_of(names, (r, names.table[c][g], q)), done(store, state, run)[0])
            d, t = right_of(names, other, q)
            self.assertEqual(state_of(names, (p, names.table[g][d], t)), done(store, state, other)[0])
            self.assertEqual(store_of(mirrored(names)), Store(store.size, store.offices[::-1]))
            self.assertEqual(left_power(names, run, p, 3), left_of(names, run * 3, p))

    def test_errors(self):
        tables = [(value, ("InvalidTable", -1)) for value in not_tuples() + [()]]
        tables += [(((0, 1), (1, 1)), ("InvalidTable", 1)), (((1, 0), (0, 1)), ("InvalidTable", 0)), ((0,), ("InvalidTable", 0))]
        rows = not_tuples() + [(), ((0, 0),), ((0, 0),) * 3, [(0, 0), (0, 0)], ((0, 0), (2, 0)), ((0, 0), (0, 2)), ((0, 0), (0, -1))]
        rows += [((0, 0), value) for value in not_tuples() + [(), (0,), (0, 0, 0), [0, 0]]]
        rows += [((0, 0), (value, 0)) for value in not_numbers()] + [((0, 0), (0, value)) for value in not_numbers()]
        wrong = [value for value in not_tuples() + [(), ("a",), [("a", ())]] if not isinstance(value, dict) or value]
        lefts = wrong + [{**LEFT, "c": row} for row in rows] + [{"a": row, "c": row} for row in ((), ((0, 0), (0, 2)))]
        lefts += [{name: ((0, 0),), "c": ((0, 0),)} for name in not_names() if not isinstance(name, (list, dict, set, Touchy))]
        rights = [value for value in wrong] + [{"a": ((0, 0),)}, {"b": ((0, 0),), "c": ((0, 0),)}]
        rights += [{"d": ((1, 0),), "b": row} for row in
                   [(), ((0, 0), (0, 0)), ((2, 0),), ((0, 1),), [(0, 0)], ((0,),), ((True, 0),), ((0, False),), (None,), ((Odd(), 0),)]]
        rights += [{name: ((0, 0),)} for name in not_names() if not isinstance(name, (list, dict, set, Touchy))]
        answers = wrong + [{}, {"a": (0, 0), "b": (0,), "c": (0, 0)}, {"a": (0, 0), "c": (0, 0)}, {**ANSWERS, "d": (0,)}]
        answers += [{"a": (0, 0), "c": (0, 0), Alike("b"): (0,)}, {"a": (0, 0), "c": (0, 0), 0: (0,)}]
        items = not_tuples() + [(), (0,), (0, 0, 0), [0, 0], (0, MOST + 1), (0, -1), (0, True), (None, 0), (Odd(), 0), (Touchy(), 0)]
        answers += [{**ANSWERS, "c": row} for row in items] + [{**ANSWERS, "b": row} for row in [(), (0, 0), (MOST + 1,), (True,), [0]]]
        errors_in_order(self, made_names, GOOD, [
            ("table", tables), ("left", [(value, ("InvalidNumber", "left")) for value in lefts]),
            ("right", [(value, ("InvalidNumber", "right")) for value in rights]),
            ("answers", [(value, ("InvalidNumber", "answers")) for value in answers])])

    def test_edges(self):
        names = made_names(table=((0,),), left={}, right={}, answers={})
        self.assertEqual(parts_of(names), {"owns": (0,), "others": (0,), "shares": (0,), "table": ((0,),), "left": {}, "right": {},
                                           "answers": {}})
        self.assertIs(check_names(Store(1, ((), ())), names), True)
        names = made_names(ring(3), {}, {"b": ((1, 1), (0, 0))}, {"b": (0, 0)})
        self.assertEqual((names.owns, names.shares, names.others), ((0,) * 6, (0, 0, 1, 1, 2, 2), (0, 1) * 3))
        names = made_names(ring(200), {"a": ((0, 1),)}, {"b": ((3, 0),)}, {"a": (0,), "b": (0,)})
        self.assertIs(check_names(store_of(names), names), True)
        names = made_names(ring(1), {"a": tuple((p + 1, 0) for p in range(199)) + ((0, 0),)}, {}, {"a": (MOST,) * 200})
        self.assertIs(check_names(store_of(names), names), True)

    def test_later_changes(self):
        left, right, answers = dict(LEFT), dict(RIGHT), dict(ANSWERS)
        names = made_names(TABLE, left, right, answers)
        for table in (left, right, answers):
            table.clear()
        self.assertEqual((names.left, names.right, names.answers), (LEFT, RIGHT, ANSWERS))


class TurningTest(unittest.TestCase):

    def test_some_turning(self):
        rng = random.Random(981)
        sizes = set()
        for store in whole_stores(982, 80):
            fresh, order = shuffled_store(rng, store)
            one, other = tree_names(store, rng.randrange(store.size)), tree_names(fresh, rng.randrange(store.size))
            for match in matches(store, fresh, most=3):
                turning = forms.some_turning(one, other, match)
                self.assertIs(turning.__class__, Turning)
                self.assertTrue(turned_by_words(one, other, turning))
                self.assertIs(forms.check_turning(one, other, turning), True)
                self.assertEqual(forms.order_by(one, other, turning), match)
                for part in (turning.owns, turning.others, turning.images, turning.lefts, turning.rights):
                    self.assertIsInstance(part, tuple)
            sizes.add((len(one.table), len(turning.owns), len(turning.others)))
            wrong = tuple(rng.sample(order, len(order)))
            if not renumbered(store, wrong) == fresh:
                self.assertEqual(error_of(self, Refused, forms.some_turning, one, other, wrong).word, "order")
        self.assertGreater(len(sizes), 12)

    def test_all_turnings_tried(self):
        """Each match has n turnings, and `check_turning` accepts these and no others."""
        rng = random.Random(983)
        several = 0
        for store in whole_stores(984, 60, most=2, size=8):
            one = names_of(store)
            n, m, k = len(one.table), max(one.owns) + 1, max(one.others) + 1
            if n > 3 or n ** (m + k) > 100:
                continue
            fresh, _ = shuffled_store(rng, store)
            if rng.randrange(3) == 0:
                fresh = next(whole_stores(rng.randrange(10 ** 6), 1, most=2, size=8))
                fresh = plain_names(fresh)
                store = plain_names(store)
                one = names_of(store)
            other = names_of(fresh)
            if (len(other.table), max(other.owns) + 1, max(other.others) + 1) != (n, m, k):
                continue
            found = {}
            for owns, others, images in itertools.product(*[itertools.permutations(range(size)) for size in (m, k, n)]):
                for lefts in itertools.product(range(n), repeat=m):
                    for rights in itertools.product(range(n), repeat=k):
                        turning = Turning(owns, others, images, lefts, rights)
                        good = turned_by_words(one, other, turning)
                        self.assertIs(forms.check_turning(one, other, turning), good)
                        if good:
                            order = forms.order_by(one, other, turning)
                            found[order] = found.get(order, 0) + 1
            self.assertEqual(found, {order: n for order in matches(store, fresh)})
            several += len(found) > 1
        self.assertGreater(several, 3)

    def test_one_part_changed(self):
        rng = random.Random(985)
        verdicts = [0, 0]
        for store in whole_stores(986, 40):
            fresh, order = shuffled_store(rng, store)
            one, other = names_of(store), tree_names(fresh, rng.randrange(store.size))
            good = vars(forms.some_turning(one, other, order))
            for part, row in good.items():
                for at in range(len(row)):
                    for item in range(len(one.table) + 1):
                        value = Turning(**{**good, part: row[:at] + (item,) + row[at + 1:]})
                        fits = max(value.lefts + value.rights + value.images) < len(one.table)
                        fits = fits and max(value.owns) <= max(one.owns) and max(value.others) <= max(one.others)
                        fits = fits and turned_by_words(one, other, value)
                        self.assertIs(forms.check_turning(one, other, value), fits)
                        verdicts[fits] += 1
        self.assertGreater(min(verdicts), 50)

    def test_answers_and_keys(self):
        """Answers must be the same at the parts, and keys in one order."""
        one = names_of(Store(2, ((("a", (1, 0), (3, 4)), ("c", (1, 0), (0, 0))), ())))
        order = (0, 1)
        turning = forms.some_turning(one, one, order)
        self.assertIs(forms.check_turning(one, one, turning), True)
        for store in (Store(2, ((("a", (1, 0), (3, 5)), ("c", (1, 0), (0, 0))), ())),
                      Store(2, ((("c", (1, 0), (0, 0)), ("a", (1, 0), (3, 4))), ())),
                      Store(2, ((("a", (1, 0), (3, 4)),), ())), Store(2, ((("a", (1, 0), (3, 4)), ("d", (1, 0), (0, 0))), ())),
                      Store(2, ((), (("a", (1, 0), (3, 4)), ("c", (1, 0), (0, 0))))), Store(1, ((), ()))):
            other = names_of(store)
            self.assertIs(forms.check_turning(one, other, turning), False)
            self.assertIs(forms.check_turning(other, one, turning), False)
            self.assertEqual(error_of(self, Refused, forms.some_turning, one, other, order).word, "order")
        rows = (("a", (1, 0), (3, 4)), ("c", (1, 0), (0, 0)))
        right, turned = [names_of(Store(2, ((), row))) for row in (rows, rows[::-1])]
        turning = forms.some_turning(right, right, order)
        self.assertIs(forms.check_turning(right, right, turning), True)
        self.assertIs(forms.check_turning(right, turned, turning), False)
        wide, small = [names_of(Store(size, ((("a", ends, (0,) * size),), ()))) for size, ends in ((2, (1, 0)), (1, (0,)))]
        turning = forms.some_turning(wide, wide, order)
        self.assertIs(forms.check_turning(wide, wide, turning), True)
        self.assertIs(forms.check_turning(wide, small, turning), False)
        self.assertIs(forms.check_turning(small, wide, Turning((0,), (0,), (0,), (0,), (0,))), False)
        right = names_of(Store(2, ((), (("a", (1, 0), (3, 4)),))))
        other = names_of(Store(2, ((), (("a", (1, 0), (4, 3)),))))
        self.assertIs(forms.check_turning(right, other, forms.some_turning(right, other, (1, 0))), True)
        self.assertIs(forms.check_turning(right, other, forms.some_turning(right, right, (0, 1))), False)

    def test_kinds(self):
        store = pack(3)
        one = names_of(store)
        good = vars(forms.some_turning(one, one, tuple(range(6))))
        self.assertIs(forms.check_turning(one=one, other=one, value=Turning(**good)), True)
        for part, row in good.items():
            wrong = not_tuples() + [(), row[:-1], row + (0,), list(row)] + [row[:-1] + (item,) for item in not_numbers() + [6, 10 ** 20]]
            for value in wrong:
                self.assertIs(forms.check_turning(one, one, Turning(**{**good, part: value})), False, (part, value))
        for value in not_tuples() + [tuple(good.values()), good, one]:
            self.assertIs(forms.check_turning(one, one, value), False)

    def test_wrong_orders(self):
        names = names_of(pack(3))
        self.assertEqual(forms.order_by(names, names, forms.some_turning(one=names, other=names, order=tuple(range(6)))), tuple(range(6)))
        wrong = not_tuples() + [(), (0, 1), tuple(range(5)), tuple(range(7)), (0, 0, 1, 2, 3, 4), list(range(6)), (1, 0, 2, 3, 4, 5)]
        wrong += [(value, 1, 2, 3, 4, 5) for value in not_numbers()]
        for value in wrong:
            self.assertEqual(error_of(self, Refused, forms.some_turning, names, names, value).word, "order")


class FormTest(unittest.TestCase):

    def test_equal_exactly_if_there_is_a_match(self):
        rng = random.Random(991)
        stores = [plain_names(store) for store in whole_stores(992, 100, most=2, size=8, counts=(0, 2))]
        stores += [plain_names(store) for store in whole_stores(993, 20)]
        stores += [shuffled_store(rng, store)[0] for store in rng.sample(stores, 30)]
        told = [parts_of(forms.form_of(store)) for store in stores]
        verdicts = [0, 0]
        for (one, first), (other, second) in itertools.combinations(zip(stores, told), 2):
            fits = one.size == other.size and one.names() == other.names() and bool(matches(one, other, most=1))
            keys = [list(names["left"]) + list(names["right"]) + list(names["answers"]) for names in (first, second)]
            self.assertIs(first == second and keys[0] == keys[1], fits)
            if one.size == other.size and one.names() == other.names():
                verdicts[fits] += 1
        self.assertGreater(min(verdicts), 50)

    def test_names_of_a_match(self):
        rng = random.Random(994)
        for store in whole_stores(995, 60):
            names = forms.form_of(store)
            other = store_of(names)
            self.assertIs(check_names(other, names), True)
            self.assertTrue(matches(store, other, most=1))
            self.assertEqual(parts_of(forms.form_of(shuffled_store(rng, store)[0])), parts_of(names))
            self.assertEqual(set(PARTS), set(vars(names)))

    def test_still_matches(self):
        counts = set()
        for store in whole_stores(996, 100):
            own, rest = homes(store, 1), homes(store, 0)
            every = matches(store, store)
            still = tuple(order for order in every
                          if all(own[t] == own[s] and rest[t] == rest[s] for s, t in enumerate(order)))
            self.assertEqual(forms.still_matches(store), still)
            names = names_of(store)
            self.assertEqual(len(still), len(centre(names.table)))
            self.assertEqual(len(every) % len(still), 0)
            for order in still:
                factors = [z for z in range(len(names.table)) if all(names.table[z][names.shares[s]] == names.shares[t]
                                                                     for s, t in enumerate(order))]
                self.assertEqual(len(factors), 1)
                self.assertIn(factors[0], centre(names.table))
            counts.add((len(still), len(every)))
        self.assertTrue({(1, 1), (1, 2), (2, 2), (3, 3), (2, 4)} <= counts, counts)

    def test_errors(self):
        three = [Store(2, store.offices + ((),)) for store in (SEEN, ONEWAY, BOTH)] + [Store(1, ((), (), ()))]
        for call in (forms.form_of, forms.still_matches):
            errors_in_order(self, call, {"store": pack(2)}, [
                ("store", refused("offices", *three) + refused("seen", SEEN, BOTH) + refused("oneway", ONEWAY))])

    def test_edges(self):
        one = Store(1, ((), ()))
        self.assertEqual((forms.still_matches(store=one), parts_of(forms.form_of(store=one))["shares"]), (((0,),), (0,)))
        turn = tuple((s + 1) % 200 for s in range(200))
        rows = tuple((name, turn, (0,) * 200) for name in names_in_letters(40))
        wide = Store(200, (rows[:20], rows[20:]))
        self.assertEqual(len(forms.still_matches(wide)), 200)
        told = forms.form_of(wide)
        self.assertEqual(parts_of(forms.form_of(renumbered(wide, tuple(range(199, -1, -1))))), parts_of(told))
        four = both(ring(4), ring(2))
        self.assertEqual(len(forms.still_matches(store_of(made_names(four, {"a": ((0, 1),), "b": ((0, 2),)}, {"c": ((2, 0),), "d": ((1, 0),)},
                                                                     {name: (0,) for name in "abcd"})))), 8)


def names_in_letters(many):
    return ["z" + "abcdefgh"[k // 8] + "abcdefgh"[k % 8] for k in range(many)]


if __name__ == "__main__":
    unittest.main()
