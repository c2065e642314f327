"""Greatest loads of pairs: a flow from limits on the left to limits on the right."""


def greatest_loads(near, lefts, rights):
    """Loads of the pairs (left, right), all those above 0, with the greatest possible sum.

    `near` has for each left a list of the rights with which it is a pair, `lefts` and
    `rights` have the limits that the loads of one left or one right together keep.
    """
    left_free = list(lefts)
    right_free = list(rights)
    given = [{} for _ in rights]
    trail = free_trail(near, given, left_free, right_free)
    while trail is not None:
        shift_along(trail, given, left_free, right_free)
        trail = free_trail(near, given, left_free, right_free)
    loads = {}
    for right, row in enumerate(given):
        for left, load in row.items():
            loads[(left, right)] = load
    return loads


def free_trail(near, given, left_free, right_free):
    """A shortest trail, left, right, left .. right, between two with limits that are not reached.

    From a right a trail goes on only to a left with which it has a load.
    """
    came_left = {left: None for left, free in enumerate(left_free) if free > 0}
    came_right = {}
    queue = list(came_left)
    at = 0
    while at < len(queue):
        left = queue[at]
        at += 1
        for right in near[left]:
            if right not in came_right:
                came_right[right] = left
                if right_free[right] > 0:
                    return trail_to(right, came_left, came_right)
                for back in given[right]:
                    if back not in came_left:
                        came_left[back] = right
                        queue.append(back)
    return None


def trail_to(right, came_left, came_right):
    """The trail by which a search came to a right."""
    trail = []
    while right is not None:
        left = came_right[right]
        trail.append(right)
        trail.append(left)
        right = came_left[left]
    return list(reversed(trail))


def shift_along(trail, given, left_free, right_free):
    """Shifts as much load as possible along a trail."""
    amount = min(left_free[trail[0]], right_free[trail[-1]])
    for at in range(1, len(trail) - 1, 2):
        amount = min(amount, given[trail[at]][trail[at + 1]])
    left_free[trail[0]] -= amount
    right_free[trail[-1]] -= amount
    for at in range(0, len(trail), 2):
        row = given[trail[at + 1]]
        row[trail[at]] = row.get(trail[at], 0) + amount
    for at in range(1, len(trail) - 1, 2):
        row = given[trail[at]]
        row[trail[at + 1]] -= amount
        if row[trail[at + 1]] == 0:
            del row[trail[at + 1]]
