"""Relations between states: for each state the states to which something leads, as the bits of a number."""

from sharedunseen.walks import bits_of


def step_masks(operations, size):
    """For each state the states to which one operation leads it."""
    masks = [0] * size
    for operation in operations:
        for state, end in enumerate(operation[1]):
            masks[state] |= 1 << end
    return masks


def still_masks(size):
    """For each state itself."""
    return [1 << state for state in range(size)]


def image_mask(mask, masks):
    """The states to which a relation leads some states."""
    image = 0
    for state in bits_of(mask):
        image |= masks[state]
    return image


def composed(first, second):
    """One relation followed by another one."""
    images = {}
    for mask in first:
        if mask not in images:
            images[mask] = image_mask(mask, second)
    return [images[mask] for mask in first]


def times_done(masks, many):
    """A relation, done `many` times."""
    done = still_masks(len(masks))
    while many > 0:
        if many & 1:
            done = composed(done, masks)
        many >>= 1
        if many > 0:
            masks = composed(masks, masks)
    return done
