"""When ends alone tell what copies are put together to, and what must be noted before the cut if they do not."""

from sharedunseen.checks import check_number, chosen_operations
from sharedunseen.clashes import ends_hold
from sharedunseen.errors import InvalidNumber, Refused
from sharedunseen.homes import joint_homes, need_smooth_reversible
from sharedunseen.kinds import are_below, is_number
from sharedunseen.many import states_like
from sharedunseen.merges import check_ends, island_lots, put_together, results_of, ways_to_ends
from sharedunseen.partings import common_view, is_carried_by, least_places
from sharedunseen.shared import Shared, product_table


def checked_lots(store, islands):
    """The islands, each office for None; raises for any other value, and unless the store is smooth and reversible."""
    lots = island_lots(store, islands)
    need_smooth_reversible(store)
    return lots


def island_cores(store, lots):
    """The view of the cores of some islands."""
    return common_view([joint_homes(store, lot) for lot in lots])


def core_results(store, lots):
    """For each state what is put together from it if all ends are the least state of its core."""
    cores = island_cores(store, lots)
    results = [0] * store.size
    for least in least_places(cores):
        ways = ways_to_ends(store, [least] * len(lots), lots)
        for state in states_like(cores, least):
            results[state] = put_together(ways, state)
    return results


def island_measure(store, *, islands=None):
    """How many cores there are, how many states each has, and how many outcomes there are from one core."""
    lots = checked_lots(store, islands)
    cores = island_cores(store, lots)
    results = core_results(store, lots)
    return (max(cores) + 1, cores.count(0), len(set([results[state] for state in states_like(cores, 0)])))


def merge_table(store, *, islands=None, base=0):
    """The table of what is put together from ends in the core of `base`."""
    lots = island_lots(store, islands)
    check_number(base, store.size, "base")
    need_smooth_reversible(store)
    if len(lots) == 1:
        raise Refused("islands")
    shares = states_like(island_cores(store, lots), base)
    return Shared(product_table(chosen_operations(store, lots[0]), shares), shares)


def ends_suffice(store, *, islands=None):
    """Whether all outcomes of the same ends are one state."""
    return island_measure(store, islands=islands)[2] == 1


def torn(store, *, islands=None):
    """Some ends and two of their starts from which unlike states are put together, or None."""
    lots = checked_lots(store, islands)
    ends = (0,) * len(lots)
    # State 0 itself is put together from state 0 and these ends, and all cores are alike.
    others = [state for state, result in results_of(store, ends, lots).items() if result != 0]
    return (ends, 0, others[0]) if others else None


def check_torn(store, value, *, islands=None):
    """Whether any value is such ends and starts."""
    lots = island_lots(store, islands)
    if not ends_hold(store) or not isinstance(value, tuple) or len(value) != 3:
        return False
    ends, one, other = value
    if not are_below(ends, len(lots), store.size) or not are_below((one, other), 2, store.size):
        return False
    results = results_of(store, ends, lots)
    return one in results and other in results and results[one] != results[other]


def are_notes(store, value, *, islands=None):
    """Whether any value is notes with which the ends suffice."""
    return fit_together(store, value, checked_lots(store, islands))


def fit_together(store, value, lots):
    """Whether any value is a number for each state that tells, with the core, what is put together."""
    if not isinstance(value, tuple) or len(value) != store.size or not all([is_number(note) for note in value]):
        return False
    return is_carried_by(core_results(store, lots), list(zip(island_cores(store, lots), value)))


def least_notes(store, *, islands=None):
    """Some notes that are a view with the fewest numbers."""
    lots = checked_lots(store, islands)
    numbers = {}
    notes = []
    for core, result in zip(island_cores(store, lots), core_results(store, lots)):
        known = numbers.setdefault(core, {})
        notes.append(known.setdefault(result, len(known)))
    return tuple(notes)


def merged_by_note(store, notes, note, ends, *, islands=None):
    """What is put together from those starts of the ends that have a note."""
    lots = island_lots(store, islands)
    if not is_number(note):
        raise InvalidNumber("note")
    check_ends(store, ends, lots)
    need_smooth_reversible(store)
    if not fit_together(store, notes, lots):
        raise Refused("notes")
    fitting = [result for state, result in results_of(store, ends, lots).items() if notes[state] == note]
    if not fitting:
        raise Refused("start")
    return fitting[0]


def count_notes(store, *, islands=None):
    """How many views are notes with the fewest numbers."""
    cores, _, many = island_measure(store, islands=islands)
    count = 1
    for _ in range(cores - 1):
        for factor in range(2, many + 1):
            count *= factor
    return count


def count_ends(store, *, islands=None):
    """How many tuples of states are ends of any cut."""
    lots = checked_lots(store, islands)
    count = max(island_cores(store, lots)) + 1
    for lot in lots:
        count *= joint_homes(store, lot).count(0)
    return count
