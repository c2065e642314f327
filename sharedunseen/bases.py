"""Other names of the same states: from other states on, or with as few factors as possible."""

from sharedunseen.checks import check_number
from sharedunseen.errors import InvalidNumber, Refused
from sharedunseen.kinds import are_below, is_order
from sharedunseen.names import Names, names_around, names_of, need_two_offices
from sharedunseen.runs import check_state
from sharedunseen.shared import measure

MOST_CHOICES = 10000


def turned(names, images, lefts, rights):
    """The names with other shares: each is renamed and multiplied by a share of its own and of its other part."""
    many = len(names.table)
    if not is_order(images, many) or images[0] != 0:
        raise InvalidNumber("images")
    if not are_below(lefts, max(names.owns) + 1, many):
        raise InvalidNumber("lefts")
    if not are_below(rights, max(names.others) + 1, many):
        raise InvalidNumber("rights")
    table = renamed_table(names.table, images)
    inverses = [row.index(0) for row in table]
    shares = []
    for own, share, other in zip(names.owns, names.shares, names.others):
        shares.append(table[table[lefts[own]][images[share]]][rights[other]])
    left = {}
    right = {}
    for name, row in names.left.items():
        left[name] = tuple([(end, table[table[lefts[end]][images[factor]]][inverses[lefts[own]]])
                            for own, (end, factor) in enumerate(row)])
    for name, row in names.right.items():
        right[name] = tuple([(table[table[inverses[rights[other]]][images[factor]]][rights[end]], end)
                             for other, (factor, end) in enumerate(row)])
    return Names(names.owns, names.others, tuple(shares), table, left, right, names.answers)


def renamed_table(table, images):
    """The table in which the images of shares have the images of their products as products."""
    rows = [[0] * len(table) for _ in table]
    for one, row in enumerate(table):
        for two, share in enumerate(row):
            rows[images[one]][images[two]] = images[share]
    return tuple([tuple(row) for row in rows])


def count_names(store):
    """How many unlike names the states of a store have."""
    need_two_offices(store)
    owned, many, othered = measure(store)
    count = 1
    for factor in range(1, many):
        count *= factor
    for _ in range(owned + othered - 1):
        count *= many
    return count


def idle_factors(names):
    """How many factors are 0."""
    idle = 0
    for row in list(names.left.values()):
        idle += len([factor for _, factor in row if factor == 0])
    for row in list(names.right.values()):
        idle += len([factor for factor, _ in row if factor == 0])
    return idle


def tree_names(store, state):
    """Some names in which a state has the share 0, with idle factors on a way to all parts."""
    need_two_offices(store)
    check_state(store, state)
    return names_around(store, state)


def idle_names(store, *, most=10000):
    """Some names with the most idle factors."""
    need_two_offices(store)
    check_number(most, MOST_CHOICES + 1, "most")
    owned, many, othered = measure(store)
    if not is_within(many, owned - 1, most) or not is_within(many, othered - 1, most):
        raise Refused("wide")
    names = names_of(store)
    # A factor c from p to r is idle behind the turning if the share of p is that of r times c.
    left = [(own, end, factor) for row in list(names.left.values()) for own, (end, factor) in enumerate(row)]
    opposed = [(other, end, factor) for row in list(names.right.values()) for other, (factor, end) in enumerate(row)]
    lefts = best_shares(names.table, owned, left)
    # For other parts it is so if the share of q is c times that of t: the same with inverses on both sides.
    inverses = [row.index(0) for row in names.table]
    turned_round = [(other, end, inverses[factor]) for other, end, factor in opposed]
    rights = [inverses[share] for share in best_shares(names.table, othered, turned_round)]
    return turned(names, tuple(range(many)), tuple(lefts), tuple(rights))


def best_shares(table, parts, factors):
    """Shares of so many parts such that most of the factors (p, r, c) become idle.

    One does if the share of p is the product of that of r and c. To multiply all
    shares from the left by one share changes nothing, so the first one may be 0.
    """
    rows = [((0,), 0)]
    for part in range(1, parts):
        near = [(own, end, factor) for own, end, factor in factors if max(own, end) == part]
        further = []
        for chosen, idle in rows:
            for share in range(len(table)):
                fresh = chosen + (share,)
                more = len([own for own, end, factor in near if fresh[own] == table[fresh[end]][factor]])
                further.append((fresh, idle + more))
        rows = further
    return max(rows, key=lambda row: row[1])[0]


def is_within(many, exponent, most):
    """Whether a power is at most `most`."""
    power = 1
    for _ in range(exponent):
        power *= many
        if power > most:
            return False
    return power <= most
