"""Verdicts: whether a cut can be noticed at all."""

from sharedunseen.clashes import all_clashes, ends_hold, is_clash
from sharedunseen.steady import answers_hold
from sharedunseen.stores import Store


class Unseen:
    """The verdict that nothing clashes in a store."""

    def __init__(self, store):
        self.store = store


class Seen:
    """The verdict that a clash holds in a store."""

    def __init__(self, store, clash):
        self.store = store
        self.clash = clash


def court(store):
    """The verdict on a store, with the first clash if there is one."""
    clashes = all_clashes(store)
    return Seen(store, clashes[0]) if clashes else Unseen(store)


def check_verdict(store, value):
    """Whether any value is a verdict on an equal store that is right."""
    if isinstance(value, Unseen):
        return is_same_store(store, value.store) and not all_clashes(store)
    if isinstance(value, Seen):
        return is_same_store(store, value.store) and is_clash(store, value.clash)
    return False


def is_same_store(store, value):
    """Whether any value is an equal store."""
    return isinstance(value, Store) and value == store


def sort_of(store):
    """Whether all ends hold, and whether all answers do."""
    return (ends_hold(store), answers_hold(store))
