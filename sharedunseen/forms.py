"""Names made of tables, turnings of names into one another, and one form for all stores that match."""

from sharedunseen.errors import InvalidNumber, Refused
from sharedunseen.groups import centre, check_table, is_matching
from sharedunseen.kinds import are_below, is_below, is_name, is_order
from sharedunseen.names import Names, are_told, name_of, names_of, need_two_offices, state_of, store_of
from sharedunseen.stores import operations_of, renumbered, renumbered_operation
from sharedunseen.walks import first_steps


class Turning:
    """Parts, shares and factors that turn names of one store into those of another one."""

    def __init__(self, owns, others, images, lefts, rights):
        self.owns = owns
        self.others = others
        self.images = images
        self.lefts = lefts
        self.rights = rights


def made_names(table, left, right, answers):
    """The names of a store that is told by a table, and by what its operations do to parts and shares."""
    check_table(table)
    many = len(table)
    owned = part_count(left, many, 1)
    if owned is None:
        raise InvalidNumber("left")
    othered = part_count(right, many, 0)
    if othered is None or [name for name in right if name in left]:
        raise InvalidNumber("right")
    if not are_told(answers, list(left), list(right), owned, othered):
        raise InvalidNumber("answers")
    triples = [(own, share, other) for own in range(owned) for share in range(many) for other in range(othered)]
    owns = tuple([own for own, _, _ in triples])
    shares = tuple([share for _, share, _ in triples])
    others = tuple([other for _, _, other in triples])
    return Names(owns, others, shares, table, left, right, answers)


def part_count(value, many, place):
    """The number of the parts of any value that is a dict of names with pairs of a part and a share, or None.

    The shares are below `many`, and stand at the index `place` of the pairs.
    """
    if not isinstance(value, dict):
        return None
    count = None if value else 1
    for name, row in value.items():
        if not is_name(name) or not isinstance(row, tuple) or len(row) == 0:
            return None
        if count is None:
            count = len(row)
        if len(row) != count or not all([is_factor(pair, count, many, place) for pair in row]):
            return None
    return count


def is_factor(value, count, many, place):
    """Whether any value is a pair of a part below `count` and a share below `many`, at the index `place`."""
    if not isinstance(value, tuple) or len(value) != 2:
        return False
    return is_below(value[1 - place], count) and is_below(value[place], many)


def check_turning(one, other, value):
    """Whether any value is a turning of names of one store into those of another one."""
    if not isinstance(value, Turning) or not are_turning_parts(one, other, value):
        return False
    if list(one.left) != list(other.left) or list(one.right) != list(other.right):
        return False
    table = other.table
    backs = [table[share].index(0) for share in value.lefts]
    for name, row in one.left.items():
        goal = other.left[name]
        for own, (end, factor) in enumerate(row):
            moved = table[table[value.lefts[end]][value.images[factor]]][backs[own]]
            if goal[value.owns[own]] != (value.owns[end], moved):
                return False
    backs = [table[share].index(0) for share in value.rights]
    for name, row in one.right.items():
        goal = other.right[name]
        for part, (factor, end) in enumerate(row):
            moved = table[table[backs[part]][value.images[factor]]][value.rights[end]]
            if goal[value.others[part]] != (moved, value.others[end]):
                return False
    return are_answers_turned(one, other, value)


def are_turning_parts(one, other, value):
    """Whether the attributes of a turning are tuples of the kinds that are asked."""
    owned = max(one.owns) + 1
    othered = max(one.others) + 1
    if owned != max(other.owns) + 1 or othered != max(other.others) + 1:
        return False
    if not is_order(value.owns, owned) or not is_order(value.others, othered):
        return False
    if not is_matching(one.table, other.table, value.images):
        return False
    many = len(other.table)
    return are_below(value.lefts, owned, many) and are_below(value.rights, othered, many)


def are_answers_turned(one, other, turning):
    """Whether the answers of all operations are the same at the parts to which a turning leads."""
    for name in one.left:
        if one.answers[name] != tuple([other.answers[name][part] for part in turning.owns]):
            return False
    for name in one.right:
        if one.answers[name] != tuple([other.answers[name][part] for part in turning.others]):
            return False
    return True


def order_by(one, other, turning):
    """The match of the stores to which a turning belongs."""
    order = []
    for own, share, part in zip(one.owns, one.shares, one.others):
        moved = other.table[other.table[turning.lefts[own]][turning.images[share]]][turning.rights[part]]
        order.append(state_of(other, (turning.owns[own], moved, turning.others[part])))
    return tuple(order)


def some_turning(one, other, order):
    """Some turning to which a match of the stores belongs."""
    store = store_of(one)
    if not renumbered(store, order) == store_of(other):
        raise Refused("order")
    named = {}
    for state, goal in enumerate(order):
        named[name_of(one, state)] = name_of(other, goal)
    owned = range(max(one.owns) + 1)
    othered = range(max(one.others) + 1)
    # The first own part may have the share 0; then all others are told by where states with shares 0 are led.
    rights = tuple([named[(0, 0, part)][1] for part in othered])
    back = other.table[rights[0]].index(0)
    lefts = tuple([other.table[named[(own, 0, 0)][1]][back] for own in owned])
    images = tuple([other.table[named[(0, share, 0)][1]][back] for share in range(len(one.table))])
    owns = tuple([named[(own, 0, 0)][0] for own in owned])
    others = tuple([named[(0, 0, part)][2] for part in othered])
    return Turning(owns, others, images, lefts, rights)


def form_of(store):
    """Names of a store that has a match with this one, the same for all stores with a match."""
    need_two_offices(store)
    return names_of(renumbered(store, first_order_of(store)))


def first_order_of(store):
    """The order that makes the first store, as Python compares, of those that number states as they are reached."""
    operations = operations_of(store)
    best = None
    for state in range(store.size):
        order = [0] * store.size
        for number, reached in enumerate(first_steps(operations, state)):
            order[reached] = number
        rows = [renumbered_operation(operation, order) for operation in operations]
        if best is None or rows < best[0]:
            best = (rows, order)
    return tuple(best[1])


def still_matches(store):
    """The matches of a store with itself that change no part, ascending."""
    names = names_of(store)
    states = {name_of(names, state): state for state in range(store.size)}
    orders = []
    for factor in centre(names.table):
        row = names.table[factor]
        orders.append(tuple([states[(own, row[share], part)]
                             for own, share, part in zip(names.owns, names.shares, names.others)]))
    return tuple(sorted(orders))
