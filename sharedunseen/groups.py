"""Groups, told by the tables of their products."""

from sharedunseen.errors import InvalidNumber, InvalidTable, Refused
from sharedunseen.kinds import is_below, is_integer, is_order

MOST_SHARES = 200
WIDE_SHARES = 24


def check_table(value):
    """Raises unless any value is the table of a group."""
    if not isinstance(value, tuple) or not 1 <= len(value) <= MOST_SHARES:
        raise InvalidTable(-1)
    size = len(value)
    for number, row in enumerate(value):
        if not is_order(row, size) or row[0] != number:
            raise InvalidTable(number)
        if number == 0 and list(row) != list(range(size)):
            raise InvalidTable(0)
    for number, row in enumerate(value):
        if not is_associative(value, row):
            raise InvalidTable(number)


def is_associative(table, row):
    """Whether the share of a row, multiplied by any two shares, keeps the last rule of tables."""
    for two, further in enumerate(table):
        if tuple([row[share] for share in further]) != tuple(table[row[two]]):
            return False
    return True


def check_share(table, value):
    """Raises unless any value is a share of the table."""
    if not is_below(value, len(table)):
        raise InvalidNumber("share")


def check_shares(table, value):
    """Raises unless any value is a tuple of shares of the table."""
    if not isinstance(value, tuple):
        raise InvalidNumber("share")
    for share in value:
        check_share(table, share)


def times(table, one, two):
    """The product of two shares."""
    check_share(table, one)
    check_share(table, two)
    return table[one][two]


def inverse(table, one):
    """The share whose products with `one` are 0."""
    check_share(table, one)
    return table[one].index(0)


def power(table, one, many):
    """The product of `many` times one share, of its inverse for numbers below 0."""
    check_share(table, one)
    if not is_integer(many):
        raise InvalidNumber("many")
    reached = 0
    for _ in range(many % order_of(table, one)):
        reached = table[reached][one]
    return reached


def order_of(table, one):
    """The least number from 1 on for which the power of a share is 0."""
    check_share(table, one)
    many = 1
    reached = one
    while reached != 0:
        reached = table[reached][one]
        many += 1
    return many


def generated(table, shares):
    """The lot of the products of any number of some shares."""
    check_shares(table, shares)
    return tuple(sorted(list(image_of(table, table, shares, shares))))


def image_of(table, goal, shares, images):
    """For each product of some shares the same product of their images in the table `goal`.

    It is None if one product has two images. In a finite group inverses are products,
    too, so it is enough to multiply by the shares themselves.
    """
    found = {0: 0}
    queue = [0]
    at = 0
    steps = {share: image for share, image in zip(shares, images)}
    while at < len(queue):
        here = queue[at]
        at += 1
        for share, image in steps.items():
            there = table[here][share]
            moved = goal[found[here]][image]
            if there not in found:
                found[there] = moved
                queue.append(there)
            elif found[there] != moved:
                return None
    return found


def centre(table):
    """The lot of the shares whose products with each share are the same in both orders."""
    opposed = opposite(table)
    return tuple([share for share, row in enumerate(table) if row == opposed[share]])


def is_commutative(table):
    """Whether all products are the same in both orders."""
    return len(centre(table)) == len(table)


def opposite(table):
    """The table in which the product of i and j is that of j and i."""
    return tuple([tuple([row[share] for row in table]) for share in range(len(table))])


def is_matching(table, goal, value):
    """Whether any value is a matching of a table with another one."""
    if len(table) != len(goal) or not is_order(value, len(table)):
        return False
    for one, row in enumerate(table):
        images = goal[value[one]]
        if [value[share] for share in row] != [images[image] for image in value]:
            return False
    return True


def matching(table, goal):
    """The first matching of a table with another one in ascending order, or None."""
    if len(table) > WIDE_SHARES or len(goal) > WIDE_SHARES:
        raise Refused("wide")
    if len(table) != len(goal):
        return None
    return first_matching(table, goal, (), ())


def first_matching(table, goal, shares, images):
    """The first matching that leads some shares to these images, or None.

    The images of all products are told by these, so only the least share that is
    no product of them is free, and its images are tried in ascending order.
    """
    found = image_of(table, goal, shares, images)
    if found is None or len(set(list(found.values()))) < len(found):
        return None
    if len(found) == len(table):
        return tuple([found[share] for share in range(len(table))])
    fresh = min([share for share in range(len(table)) if share not in found])
    for image in range(len(goal)):
        whole = first_matching(table, goal, shares + (fresh,), images + (image,))
        if whole is not None:
            return whole
    return None
