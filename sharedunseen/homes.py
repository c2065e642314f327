"""Homes of states, states that last, and meetings of homes."""

from sharedunseen.checks import chosen_operations
from sharedunseen.clashes import clash_states, ends_hold
from sharedunseen.errors import Refused
from sharedunseen.partings import numbered
from sharedunseen.walks import bits_of, first_steps, reach_masks, run_along, step_counts


def home_masks(masks):
    """For each state its joint home, as bits, by the states to which runs lead each state."""
    homes_of = []
    for state, mask in enumerate(masks):
        back = [1 << other for other in bits_of(mask) if masks[other] >> state & 1]
        homes_of.append(sum(back))
    return homes_of


def joint_homes(store, offices):
    """The view in which states have equal numbers if they are in one joint home for some offices."""
    return numbered(home_masks(reach_masks(chosen_operations(store, offices), store.size)))


def homes(store, office):
    """The view in which states have equal numbers if they are in one home for an office."""
    return joint_homes(store, (office,))


def home_order(store, offices):
    """The pairs of unlike numbers of joint homes such that a run leads from the first to the second."""
    masks = reach_masks(chosen_operations(store, offices), store.size)
    view = numbered(home_masks(masks))
    pairs = {}
    for state, mask in enumerate(masks):
        if view.index(view[state]) == state:
            for other in bits_of(mask):
                if view[other] != view[state]:
                    pairs[(view[state], view[other])] = True
    return tuple(sorted(list(pairs)))


def lasting_states(store, offices=None):
    """The lot of the states from which each run of some offices can be led back by such runs."""
    masks = reach_masks(chosen_operations(store, offices), store.size)
    return tuple([state for state, home in enumerate(home_masks(masks)) if home == masks[state]])


def need_unseen_reversible(store):
    """Raises unless nothing clashes in a store and each state can be reached from each."""
    if clash_states(store):
        raise Refused("seen")
    if not is_reversible(store):
        raise Refused("oneway")


def need_smooth(store):
    """Raises unless no ends clash in a store."""
    if not ends_hold(store):
        raise Refused("ends")


def need_smooth_reversible(store):
    """Raises unless no ends clash in a store and each state can be reached from each."""
    need_smooth(store)
    if not is_reversible(store):
        raise Refused("oneway")


def is_reversible(store):
    """Whether each state can be reached from each state."""
    return closed_lot(store) is None


def closed_lot(store):
    """The first of the smallest closed lots that lack some state, or None."""
    masks = reach_masks(chosen_operations(store, None), store.size)
    lots = sorted([(len(lot), lot) for lot in [bits_of(mask) for mask in masks]])
    # What a state reaches is a closed lot, and every closed lot contains such a lot.
    many, lot = lots[0]
    return None if many == store.size else lot


def other_offices(store, offices):
    """The lot of all other offices."""
    return tuple([number for number in range(len(store.offices)) if number not in offices])


def meeting(store, one, other, offices):
    """The lot of the states in the joint home of `one`, and in that of `other` for all other offices."""
    first = joint_homes(store, offices)
    second = joint_homes(store, other_offices(store, offices))
    return tuple([state for state in range(store.size)
                  if first[state] == first[one] and second[state] == second[other]])


def crossing(store, state, goal, offices):
    """The first of the shortest pairs of a run of some offices and one of all others to a goal, or None."""
    rest = chosen_operations(store, other_offices(store, offices))
    own_steps = first_steps(chosen_operations(store, offices), state)
    own_counts = step_counts(own_steps)
    best = None
    for middle in own_steps:
        rest_steps = first_steps(rest, middle)
        if goal in rest_steps:
            many = step_counts(rest_steps)[goal]
            pair = (run_along(own_steps, middle), run_along(rest_steps, goal))
            key = (own_counts[middle] + many, own_counts[middle], pair)
            best = key if best is None else min(best, key)
    return None if best is None else best[2]
