"""Looks: numbers of the states that an office may ask for."""

from sharedunseen.checks import check_lot, check_number, check_office
from sharedunseen.errors import InvalidNumber, InvalidView, Refused
from sharedunseen.homes import other_offices
from sharedunseen.kinds import MOST_ANSWER, is_below, is_name
from sharedunseen.partings import is_kept, joined_view
from sharedunseen.stores import MOST_OPERATIONS, Store

MOST_NUMBERS = 1000


def check_look(store, value):
    """Raises unless any value is a look."""
    if not isinstance(value, tuple) or len(value) != store.size:
        raise InvalidView(-1)
    for at, item in enumerate(value):
        if not is_below(item, MOST_ANSWER + 1):
            raise InvalidView(at)


def waits_for(store, look):
    """The lot of the offices that change a look."""
    check_look(store, look)
    return tuple([office for office, row in enumerate(store.offices)
                  if not all([is_kept(operation[1], look) for operation in row])])


def with_look(store, office, name, look):
    """The store with a new last operation of an office that changes nothing and answers with a look."""
    check_office(store, office)
    if not is_name(name) or store.office_of(name) is not None:
        raise Refused("name")
    check_look(store, look)
    if len(store.names()) == MOST_OPERATIONS:
        raise Refused("operations")
    rows = list(store.offices)
    rows[office] = rows[office] + ((name, tuple(range(store.size)), look),)
    return Store(store.size, tuple(rows))


def steps_of(store, offices):
    """The steps of the operations of some offices, as a list of pairs of states."""
    return [step for office in offices for operation in store.offices[office] for step in enumerate(operation[1])]


def finest_look(store, offices):
    """The finest view that waits for none of the others of some offices."""
    check_lot(store, offices, "offices")
    return joined_view(store.size, steps_of(store, other_offices(store, offices)), [])


def told_at_once(store, offices, look):
    """The finest view that waits for none of the others and has equal numbers where a look has."""
    check_lot(store, offices, "offices")
    check_look(store, look)
    pairs = steps_of(store, other_offices(store, offices))
    pairs.extend([(look.index(number), state) for state, number in enumerate(look)])
    return joined_view(store.size, pairs, [])


def check_most(most):
    """Raises unless any value is a number from 1 to 1,000."""
    check_number(most, MOST_NUMBERS + 1, "most")
    if most == 0:
        raise InvalidNumber("most")


def looks_over(view, most):
    """How many looks with numbers below `most` have equal numbers where a view has."""
    many = 1
    for _ in range(max(view) + 1):
        many *= most
    return many


def count_looks(store, offices, most):
    """How many looks with numbers below `most` wait for none of the others of some offices."""
    check_lot(store, offices, "offices")
    check_most(most)
    return looks_over(finest_look(store, offices), most)


def count_waiting(store, offices, most):
    """How many looks with numbers below `most` wait for exactly some offices."""
    check_lot(store, offices, "offices")
    check_most(most)
    many = 0
    for mask in range(1 << len(offices)):
        lot = tuple([office for place, office in enumerate(offices) if mask >> place & 1])
        # Looks that wait for fewer of the offices are counted with each lot between, and cancel out.
        sign = 1 if (len(offices) - len(lot)) % 2 == 0 else -1
        many += sign * looks_over(finest_look(store, lot), most)
    return many
