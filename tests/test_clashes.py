"""[3], [19], and what [22] says of `clash_run` and `ends_hold`."""

import unittest

from sharedunseen import clashes
from sharedunseen.errors import InvalidRun, InvalidState
from sharedunseen.stores import Store
from tests.support import Alike, Odd, all_ops, big_store, done, error_of, many_stores, not_names, not_numbers, not_tuples

STORE = Store(3, ((("a", (0, 2, 2), (0, 0, 1)),), (("b", (1, 1, 2), (0, 0, 0)), ("c", (0, 0, 0), (0, 0, 0))), ()))


def clashes_by_words(store):
    """All clashes by [3], in the order of [19]."""
    found = []
    for low, row in enumerate(store.offices):
        for high in range(low + 1, len(store.offices)):
            for one, _, _ in row:
                for other, _, _ in store.offices[high]:
                    for state in range(store.size):
                        end, told = done(store, state, (one, other))
                        back_end, back_told = done(store, state, (other, one))
                        if end != back_end:
                            found.append((one, other, state, "ends"))
                        if told != back_told[::-1]:
                            found.append((one, other, state, "answers"))
    return tuple(found)


class ClashesTest(unittest.TestCase):

    def test_by_their_words(self):
        kinds = {"ends": 0, "answers": 0}
        for store in many_stores(31, 300):
            found = clashes_by_words(store)
            for clash in found:
                kinds[clash[3]] += 1
            self.assertEqual(clashes.all_clashes(store), found)
            pairs = tuple(dict.fromkeys(clash[:2] for clash in found))
            self.assertEqual(clashes.clashing_pairs(store), pairs)
            self.assertEqual(clashes.clash_states(store), tuple(sorted({clash[2] for clash in found})))
            self.assertEqual(clashes.ends_hold(store), all(clash[3] == "answers" for clash in found))
        self.assertGreater(min(kinds.values()), 100)

    def test_clash_of(self):
        for store in many_stores(32, 60):
            found = clashes_by_words(store)
            table = all_ops(store)
            for one in table:
                for other in table:
                    for state in range(store.size):
                        if table[one][0] == table[other][0]:
                            self.assertEqual(error_of(self, InvalidRun, clashes.clash_of, store, one, other, state).at, 1)
                            continue
                        low, high = sorted((one, other), key=lambda name: table[name][0])
                        fitting = [clash for clash in found if clash[:3] == (low, high, state)]
                        first = fitting[0] if fitting else None
                        self.assertEqual(clashes.clash_of(store, one, other, state), first)

    def test_clash_of_errors(self):
        for name in not_names() + ["x"]:
            for other in ("b", "a", None):
                self.assertEqual(error_of(self, InvalidRun, clashes.clash_of, STORE, name, other, 9).at, 0)
            self.assertEqual(error_of(self, InvalidRun, clashes.clash_of, STORE, "a", name, 9).at, 1)
        self.assertEqual(error_of(self, InvalidRun, clashes.clash_of, STORE, "b", "c", 9).at, 1)
        self.assertEqual(error_of(self, InvalidRun, clashes.clash_of, STORE, "b", "b", 0).at, 1)
        for state in not_numbers() + [3]:
            error_of(self, InvalidState, clashes.clash_of, STORE, "a", "b", state)
        self.assertEqual(clashes.clash_of(store=STORE, one="b", other="a", state=0), ("a", "b", 0, "ends"))

    def test_is_clash(self):
        for store in many_stores(33, 60):
            found = clashes_by_words(store)
            for one in store.names():
                for other in store.names():
                    for state in range(store.size):
                        for kind in ("ends", "answers"):
                            clash = (one, other, state, kind)
                            self.assertIs(clashes.is_clash(store, clash), clash in found)

    def test_is_clash_any_value(self):
        good = ("a", "b", 0, "ends")
        self.assertIs(clashes.is_clash(store=STORE, value=good), True)
        for value in not_tuples() + [(), good[:3], good + (0,), list(good), ("b", "a", 0, "ends"), (good,)]:
            self.assertIs(clashes.is_clash(STORE, value), False)
        for at in range(4):
            for part in [None, True, 1.0, [], {}, (), "x", 3, -1, Odd(), Alike(), b"a", ("a",)]:
                self.assertIs(clashes.is_clash(STORE, good[:at] + (part,) + good[at + 1:]), False)
        self.assertIs(clashes.is_clash(STORE, ("a", "b", False, "ends")), False)
        store = Store(2, ((("a", (1, 0), (0, 0)),), (("b", (0, 1), (0, 1)),)))
        self.assertEqual(clashes.clash_of(store, "a", "b", 0), ("a", "b", 0, "answers"))
        for kind in ("end", "", "answer", "Answers", None, Alike("answers"), b"answers", 1):
            self.assertIs(clashes.is_clash(store, ("a", "b", 0, kind)), False)

    def test_clash_run(self):
        for store in many_stores(34, 150):
            for clash in clashes_by_words(store):
                one, other, state, kind = clash
                changed = done(store, state, (other, one))[1][1] != done(store, state, (one,))[1][0]
                expected = (other, one) if kind == "answers" and changed else (one, other)
                self.assertEqual(clashes.clash_run(store, clash), expected)
        clash = clashes.all_clashes(STORE)[0]
        self.assertEqual(clashes.clash_run(store=STORE, clash=clash), ("a", "b"))

    def test_same_office_never_clashes(self):
        store = Store(2, ((("a", (0, 0), (0, 0)), ("b", (1, 1), (0, 1))), ()))
        self.assertEqual(clashes.all_clashes(store), ())
        self.assertEqual(clashes.clashing_pairs(store), ())
        self.assertEqual(clashes.clash_states(store), ())
        self.assertIs(clashes.ends_hold(store), True)

    def test_big(self):
        found = clashes.all_clashes(big_store())
        self.assertTrue(all(clash[3] == "answers" for clash in found))
        self.assertIs(clashes.ends_hold(big_store()), True)
        to = tuple((("a" if k == 0 else "b") + "abcdefghijklmnopqrst"[j], ((2 * j + k) % 200,) * 200, tuple(range(200)))
                   for k in range(2) for j in range(20))
        store = Store(200, (to[:20], to[20:]))
        self.assertEqual(len(clashes.all_clashes(store)), 20 * 20 * 400)


if __name__ == "__main__":
    unittest.main()
