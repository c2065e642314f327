"""Claims: what the program says of a store in a form that can be checked, and what it tells of other stores."""

from sharedunseen.barring import check_barred
from sharedunseen.clashes import clash_states, is_clash
from sharedunseen.court import Seen, Unseen, check_verdict, court, is_same_store
from sharedunseen.edits import extends
from sharedunseen.errors import InvalidRun, InvalidTable
from sharedunseen.forms import check_turning
from sharedunseen.groups import check_table, is_matching
from sharedunseen.homes import is_reversible
from sharedunseen.islands import explains
from sharedunseen.letin import may_be_given
from sharedunseen.loops import check_unlike
from sharedunseen.marks import check_marks
from sharedunseen.names import Names, check_names
from sharedunseen.notes import check_torn
from sharedunseen.orders import check_ring
from sharedunseen.reversal import OneWay, Reversible, check_reversal, reversal
from sharedunseen.runs import check_run
from sharedunseen.sheets import check_sheet
from sharedunseen.steady import is_steady
from sharedunseen.stores import Store
from sharedunseen.sums import check_sum, sum_of
from sharedunseen.undoing import is_undo
from sharedunseen.waits import check_waits

ARGUMENTS = {
    "barred": 2, "clash": 2, "explained": 5, "given": 3, "marks": 3, "matching": 3, "names": 2, "reversal": 2,
    "ring": 4, "run": 2, "sheet": 3, "steady": 3, "sum": 2, "table": 1, "torn": 2, "turning": 3, "undo": 4,
    "unlike": 2, "verdict": 2, "waits": 2,
}


def claim_words():
    """The words of claims, ascending."""
    return tuple(sorted(list(ARGUMENTS)))


def is_claim(value):
    """Whether any value is a tuple of a word of claims and as many arguments as its function takes."""
    if not isinstance(value, tuple) or len(value) == 0:
        return False
    word = value[0]
    if not isinstance(word, str) or word not in ARGUMENTS or len(value) - 1 != ARGUMENTS[word]:
        return False
    if word == "matching":
        return isinstance(value[1], tuple) and isinstance(value[2], tuple)
    if word == "turning":
        return isinstance(value[1], Names) and isinstance(value[2], Names)
    return word == "table" or isinstance(value[1], Store)


def check(claim):
    """Whether any value is a claim that holds."""
    if not is_claim(claim):
        return False
    word = claim[0]
    if word == "table":
        return is_table(claim[1])
    if word == "explained":
        return explains(claim[1], claim[2], claim[3], claim[4], claim[5])
    if word == "ring":
        return check_ring(claim[1], claim[2], claim[3], claim[4])
    if word == "undo":
        return is_undo(claim[1], claim[2], claim[3], claim[4])
    if len(claim) == 3:
        return check_pair(word, claim[1], claim[2])
    return check_triple(word, claim[1], claim[2], claim[3])


def check_pair(word, store, value):
    """Whether a claim with a store and any value holds."""
    functions = {
        "barred": check_barred, "clash": is_clash, "names": check_names, "reversal": check_reversal, "run": is_run,
        "sum": check_sum, "torn": check_torn, "unlike": check_unlike, "verdict": check_verdict, "waits": check_waits,
    }
    function = functions[word]
    return function(store, value)


def check_triple(word, first, second, value):
    """Whether a claim with two arguments and any value holds."""
    functions = {
        "given": may_be_given, "marks": check_marks, "matching": is_matching, "sheet": check_sheet,
        "steady": is_steady, "turning": check_turning,
    }
    function = functions[word]
    return function(first, second, value)


def is_run(store, run):
    """Whether any value is a run of a store."""
    try:
        check_run(store, run)
    except InvalidRun:
        return False
    return True


def is_table(value):
    """Whether any value is a table."""
    try:
        check_table(value)
    except InvalidTable:
        return False
    return True


def carried_over(claim, store):
    """What a claim that holds tells of a store, or None."""
    first = claim[1]
    if not isinstance(first, Store) or not isinstance(store, Store):
        return None
    if is_same_store(store, first):
        return claim
    if extends(store, first) and holds_in_more(claim):
        return with_store(claim, store)
    if extends(first, store) and holds_in_less(claim, store):
        return with_store(claim, store)
    return None


def holds_in_more(claim):
    """Whether a claim that holds goes on to hold with further offices and operations."""
    word = claim[0]
    if word in ("clash", "run", "undo"):
        return True
    return word in ("verdict", "reversal") and isinstance(claim[2], (Seen, Reversible))


def holds_in_less(claim, store):
    """Whether a claim that holds goes on to hold in a store with fewer offices and operations."""
    word = claim[0]
    if word in ("given", "steady"):
        return claim[2] < len(store.offices)
    return word in ("verdict", "reversal") and isinstance(claim[2], (Unseen, OneWay))


def with_store(claim, store):
    """The same claim of another store."""
    rest = claim[2:]
    if claim[0] == "verdict":
        verdict = claim[2]
        rest = (Seen(store, verdict.clash) if isinstance(verdict, Seen) else Unseen(store),)
    return (claim[0], store) + rest


def gather(store):
    """Claims of what a store is: its verdict, its reversal, and its sum if it is unseen and reversible."""
    claims = [("verdict", store, court(store)), ("reversal", store, reversal(store))]
    if not clash_states(store) and is_reversible(store):
        claims.append(("sum", store, sum_of(store)))
    return tuple(claims)


def concluded(store, claims):
    """The words that claims which hold and are carried over show of a store, ascending."""
    words = {}
    for claim in claims:
        if check(claim):
            for word in words_shown(carried_over(claim, store)):
                words[word] = True
    return tuple(sorted(list(words)))


def words_shown(claim):
    """The words that a claim that holds shows of its store, none for None."""
    if claim is None:
        return []
    word = claim[0]
    if word in ("names", "sum"):
        return ["reversible", "unseen"]
    if word == "clash":
        return ["seen"]
    if word == "verdict":
        return ["seen" if isinstance(claim[2], Seen) else "unseen"]
    if word == "reversal":
        return ["reversible" if isinstance(claim[2], Reversible) else "oneway"]
    return []
