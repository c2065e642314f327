"""Walks over the states of a store, by operations that are sorted by their names."""


def first_steps(operations, state):
    """For each state that runs lead to, how the first of the shortest runs comes to it.

    The dict has the states in the order of these runs, shorter ones first; its values
    are pairs of the state before and the name of the last operation, None at the start.
    """
    steps = {state: None}
    queue = [state]
    at = 0
    while at < len(queue):
        here = queue[at]
        at += 1
        for name, ends, _ in operations:
            if ends[here] not in steps:
                steps[ends[here]] = (here, name)
                queue.append(ends[here])
    return steps


def run_along(steps, goal):
    """The run by which `first_steps`, or another walk of this form, comes to `goal`."""
    names = []
    step = steps[goal]
    while step is not None:
        names.append(step[1])
        step = steps[step[0]]
    return tuple(reversed(names))


def step_counts(steps):
    """For each state of such a walk how many steps lead to it."""
    counts = {}
    for state, step in steps.items():
        counts[state] = 0 if step is None else counts[step[0]] + 1
    return counts


def reach_masks(operations, size):
    """For each state the states to which runs lead it, as the bits of a number."""
    masks = [1 << state for state in range(size)]
    for operation in operations:
        for state, end in enumerate(operation[1]):
            masks[state] |= 1 << end
    for middle in range(size):
        for state in range(size):
            if masks[state] >> middle & 1:
                masks[state] |= masks[middle]
    return masks


def bits_of(mask):
    """The tuple of the numbers whose bits are set."""
    return tuple([number for number in range(mask.bit_length()) if mask >> number & 1])
