"""[4]: what holds for the whole program, asked of each function of the interface."""

import importlib
import unittest

from sharedunseen.barring import least_bars
from sharedunseen.clashes import all_clashes
from sharedunseen.court import court
from sharedunseen.errors import StoreError
from sharedunseen.forms import made_names, some_turning
from sharedunseen.looks import finest_look
from sharedunseen.loops import unlike_runs
from sharedunseen.marks import least_marks
from sharedunseen.names import Names, names_of
from sharedunseen.reversal import reversal
from sharedunseen.sheets import sheet_of
from sharedunseen.shared import Shared
from sharedunseen.stores import Store
from sharedunseen.sums import sum_of
from sharedunseen.texts import show_store
from sharedunseen.waits import least_waits
from tests.support import Odd
from tests.test_groups import ring
from tests.test_interface import INTERFACE

FLIP, TURN, MIX = (1, 0, 3, 2), (2, 3, 0, 1), (2, 3, 1, 0)
NONE = (0, 0, 0, 0)
TWO = Store(4, ((("a", FLIP, (5, 5, 7, 7)), ("c", MIX, NONE)), (("b", FLIP, NONE),)))
THREE = Store(4, ((("a", FLIP, NONE), ("c", TURN, NONE)), (("b", FLIP, NONE),), (("d", FLIP, NONE),)))
SEEN = Store(4, ((("a", FLIP, NONE), ("c", MIX, NONE)), (("b", (0, 1, 1, 3), (0, 1, 2, 3)),)))
MADE = {"table": ring(2), "left": {"a": ((0, 1),)}, "right": {"b": ((1, 0),)}, "answers": {"a": (3,), "b": (4,)}}
RATES = {"a": (1, 1, 2, 2), "c": (0, 0, 0, 0), "b": (3, 3, 3, 3)}
RUNS = (("a", "c"), ("b",))
ERRORS = set(INTERFACE["errors"].replace("(at)", "").replace("(word)", "").replace("()", "").split())

PLAIN = {
    "store": TWO, "office": 0, "offices": (0,), "state": 1, "goal": 2, "one": 0, "other": 1, "name": "a", "run": ("a", "b", "a"),
    "base": 1, "value": None, "table": ring(4), "many": 3, "more": 2, "most": 7, "number": 1, "length": 3, "lengths": (2, 1),
    "look": (0, 1, 0, 1), "lot": (0, 1, 2, 3), "islands": ((0,), (1,)), "ends": (1, 0), "view": (0, 0, 1, 1), "prices": None,
    "rates": RATES, "states": (0, 1), "order": (1, 0, 3, 2), "at": 3, "word": "x", "two": 1, "shares": (1, 3), "lefts": (1,),
    "rights": (0, 1), "others": (1,), "end": 0, "times": 5, "text": show_store(TWO), "things": (3, -1, 3, 0), "own": 0,
    "names": names_of(TWO), "sheet": sheet_of(TWO, RATES), "note": 1, "notes": (0, 1, 0, 1), "events": ("a", (0, 1), "b", "c"),
    "groups": (("a", "c"), ("b",)), "size": 4, "bars": ("a",), "done": ("a",), "wished": ("c",), "runs": RUNS, "place": 0,
    "claim": ("run", TWO, ("a",)), "claims": (("verdict", TWO, court(TWO)), None), "choice": (0, 0), "matchings": ((0, 3, 2, 1),),
    "images": (0, 1), "clash": all_clashes(SEEN)[0], "turning": some_turning(names_of(TWO), names_of(TWO), (0, 1, 2, 3)),
}
SPECIAL = {
    "answers_of_weavings": {"office": 0}, "cut_answers": {"states": (0, 1)}, "copies": {"states": (0, 1)},
    "clash_of": {"one": "a", "other": "b"}, "clash_run": {"store": SEEN}, "renamed": {"names": {"a": "x", "b": "y", "c": "z", "q": 0}},
    "is_matching": {"goal": ring(4), "value": (0, 3, 2, 1)}, "matching": {"goal": ring(4)}, "own_run": {"run": ("a", "b")},
    "matches": {"one": TWO, "other": TWO}, "side_by_side": {"one": TWO, "other": Store(2, ((("x", (1, 0), (0, 0)),), ()))},
    "extends": {"one": TWO, "other": TWO}, "group_store": {"rights": (1, 3)}, "Store": {"offices": TWO.offices},
    "count_exchanges": {"one": ("a", "c", "b"), "other": ("b", "a", "c")}, "exchanges": {"one": ("a", "c", "b"), "other": ("b", "a", "c")},
    "place_of_weaving": {"run": ("b", "a", "c")}, "sorted_run": {"order": (1, 0)}, "settled": {"order": (1, 0)},
    "amend_run": {"done": ("a",)}, "common_back": {"states": (0, 2)}, "check_barred": {"value": least_bars(SEEN), "store": SEEN},
    "check_waits": {"value": least_waits(SEEN, (0,)), "store": SEEN}, "check_verdict": {"value": court(TWO)},
    "check_marks": {"value": least_marks(TWO, "a")}, "check_reversal": {"value": reversal(TWO)}, "check_sum": {"value": sum_of(TWO)},
    "check_sheet": {"value": sheet_of(TWO, RATES)}, "check_names": {"value": names_of(TWO)}, "check_table": {"value": ring(3)},
    "is_clash": {"value": all_clashes(SEEN)[0], "store": SEEN}, "check_state": {"value": 3}, "check_look": {"value": (0, 1, 2, 3)},
    "check_view": {"value": (0, 0, 1, 2)}, "may_be_given": {"value": ("x", FLIP, NONE)}, "number_of_given": {"value": FLIP},
    "is_steady": {"value": (0, 0, 1, 1)}, "is_undo": {"value": ("a",)}, "explains": {"value": ("b", "a", "c")},
    "check_torn": {"value": ((0, 0), 0, 1)}, "are_notes": {"value": (0, 1, 0, 1)}, "check_ring": {"value": ()},
    "check_turning": {"one": names_of(TWO), "other": names_of(TWO), "value": PLAIN["turning"]}, "sparing_bars": {"store": SEEN},
    "order_by": {"one": names_of(TWO), "other": names_of(TWO)}, "some_turning": {"one": names_of(TWO), "other": names_of(TWO)},
    "state_of": {"name": (0, 1, 0)}, "right_of": {"run": ("b", "b"), "other": 0}, "left_of": {"run": ("a", "c")},
    "left_power": {"run": ("a", "c")}, "right_power": {"run": ("b", "b"), "other": 0},
    "power_ends": {"run": ("a", "c"), "other": ("b",)}, "cut_ends": {"run": ("a", "c"), "other": ("b",)}, "again_ends": {"other": ("b",)},
    "turned": {"lefts": (1, 0), "rights": (1,)}, "is_finer": {"one": (0, 1, 1, 2), "other": (0, 0, 0, 1)},
    "refinement": {"one": (0, 1, 1, 2), "other": (0, 0, 0, 1)}, "merged_view": {"one": (0, 1, 1, 2), "other": (0, 0, 0, 1)},
    "place_of_blind_view": {"view": (0, 0, 1, 1)}, "seen_store": {"view": (0, 0, 1, 1)}, "with_look": {"name": "x"},
    "check_unlike": {"value": ((), (), 0)}, "shared_count": {"one": (0,), "other": (1,)}, "folded": {"store": THREE},
    "core_group": {"store": THREE}, "core_end": {"store": THREE, "goal": 0, "one": 1}, "turn_of": {"store": THREE},
    "turns": {"store": THREE}, "turning_store": {"shares": (1,)}, "multipliers": {"store": Store(2, ((("a", (1, 0), (0, 0)),), (("b", (1, 0), (0, 0)),)))},
    "join_ends": {"ends": (1, 0)}, "learnt": {"run": ("a",)}, "split_of": {"run": ("a",)}, "stopped": {"lot": (0, 1)},
    "made_names": MADE, "generated": {"shares": (2,)}, "check_run": {"run": ("a", "c")}, "share_of": {"run": ("b", "b")},
    "least_bars": {"prices": {"a": 1, "b": 2, "c": 3}}, "all_least_bars": {"store": SEEN}, "least_waits": {"store": SEEN},
    "noisy_run": {"store": SEEN}, "bar_words": {"store": SEEN}, "nearest_clash": {"store": SEEN}, "misled": {"store": SEEN},
    "hanging": {"store": TWO}, "telling_run": {"store": SEEN}, "weaving_at": {"number": 2}, "runs_by": {"goal": 1},
    "is_carried": {"view": (0, 0, 1, 1)}, "given_ends": {"number": 2}, "blind_view_at": {"number": 0}, "weaving_to": {"goal": 2},
}

DICTS = [("Barred", "prices"), ("Waits", "prices"), ("Names", "left"), ("Names", "right"), ("Names", "answers"),
         ("Sheet", "lists"), ("Sum", "adds")]


def plain(value):
    """What a value is, written out; an object by its class and its attributes."""
    if isinstance(value, dict):
        return ("dict", [(plain(key), plain(item)) for key, item in value.items()])
    if isinstance(value, (list, tuple)):
        return (value.__class__.__name__, [plain(item) for item in value])
    if value is None or isinstance(value, (int, str)):
        return (value.__class__.__name__, value)
    return (value.__class__.__name__, plain({key: item for key, item in vars(value).items()}))


def calls():
    """Each function and class of the interface with arguments by the names of its parameters."""
    for module, words in INTERFACE.items():
        for word in words.split():
            name, _, rest = word[:-1].partition("(")
            names = [part.partition("=")[0] for part in rest.split(",") if part not in ("", "*")]
            if not name[0].isupper() or name in ("Store", "Live"):
                yield getattr(importlib.import_module("sharedunseen." + module), name), name, names


def told(function, args):
    """What a call returns or raises, written out, and the result itself."""
    try:
        result = function(**args)
    except StoreError as error:
        return plain(error), None
    return plain(result), result


class WholeTest(unittest.TestCase):

    def test_equal_results_and_unchanged_arguments(self):
        raised = []
        many = 0
        for function, name, names in calls():
            args = {part: {**PLAIN, **SPECIAL.get(name, {})}[part] for part in names}
            before = plain(args)
            first, result = told(function, args)
            self.assertEqual(plain(args), before, name)
            if isinstance(result, dict):
                result.clear()
            if result.__class__.__name__ in ("Barred", "Waits"):
                result.prices.clear()
            second, _ = told(function, args)
            self.assertEqual(first, second, name)
            if first[0] in ERRORS:
                raised.append((name, first))
            many += 1
        self.assertEqual(raised, [])
        self.assertGreater(many, 230)

    def test_other_stores(self):
        """With other stores, functions answer, or raise errors of the package, and do so again."""
        for function, name, names in calls():
            for store in (TWO, THREE, SEEN, Store(4, ((), ())), Store(4, ((), (), (("a", NONE, NONE), ("b", FLIP, NONE))))):
                args = {part: {**PLAIN, **SPECIAL.get(name, {}), "store": store}[part] for part in names}
                if "store" in names and name not in ("clash_run", "undo_run", "is_undo", "undo_lengths", "undoers", "powers_undo",
                                                     "rates_of", "own_bills"):
                    before = plain(args)
                    first, second = told(function, args), told(function, args)
                    self.assertEqual(first[0], second[0], name)
                    self.assertEqual(plain(args), before, name)

    def test_classes_keep_their_arguments(self):
        """Under the names of the parameters, whatever they are; dicts as copies."""
        for module, words in INTERFACE.items():
            for word in words.split():
                name, _, rest = word[:-1].partition("(")
                if not name[0].isupper() or name in ("Store", "Live"):
                    continue
                kind = getattr(importlib.import_module("sharedunseen." + module), name)
                names = [part for part in rest.split(",") if part]
                for value in (None, 7, "abc", ("a", (1,)), {"a": (1, 2)}, Odd(), True):
                    made = kind(**{part: value for part in names})
                    for part in names:
                        self.assertEqual(getattr(made, part), value)
                        if isinstance(value, dict) and (name, part) in DICTS:
                            self.assertIsNot(getattr(made, part), value)
                if not issubclass(kind, StoreError):
                    self.assertEqual(sorted(vars(made)), sorted(names))
                    self.assertEqual(kind.__mro__, (kind, object))
                    same = {part: 7 for part in names}
                    self.assertFalse(kind(**same) == kind(**same))

    def test_names_and_shared(self):
        """Objects that came back may be passed on after what they were made of has changed."""
        left = dict(MADE["left"])
        names = made_names(ring(2), left, MADE["right"], MADE["answers"])
        left["a"] = ((0, 0),)
        self.assertEqual(names.left, MADE["left"])
        self.assertEqual(plain(Names(**vars(names))), plain(names))
        self.assertEqual(plain(Shared((), ())), ("Shared", ("dict", [(("str", "table"), ("tuple", [])), (("str", "shares"), ("tuple", []))])))
        self.assertEqual(finest_look(TWO, (0, 1)), (0, 1, 2, 3))
        self.assertIsNone(unlike_runs(TWO))


if __name__ == "__main__":
    unittest.main()
