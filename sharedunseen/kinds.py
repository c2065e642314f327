"""The kinds of values that the document asks for, asked of any values."""

MOST_LETTERS = 5
MOST_ANSWER = 1_000_000_000_000


def is_integer(value):
    """Whether any value is an integer: True and False are none."""
    return isinstance(value, int) and not isinstance(value, bool)


def is_number(value):
    """Whether any value is a number, however great."""
    return is_integer(value) and value >= 0


def is_below(value, end):
    """Whether any value is a number below `end`."""
    return isinstance(value, int) and not isinstance(value, bool) and 0 <= value < end


def is_name(value):
    """Whether any value is a name of an operation."""
    if not isinstance(value, str) or not 1 <= len(value) <= MOST_LETTERS:
        return False
    return all(["a" <= sign <= "z" for sign in value])


def is_word(value, word):
    """Whether any value is this string; a value of another kind is not compared."""
    return isinstance(value, str) and value == word


def is_lot(value, end):
    """Whether any value is a lot of numbers below `end`."""
    if not isinstance(value, tuple):
        return False
    least = 0
    for item in value:
        if not is_below(item, end) or item < least:
            return False
        least = item + 1
    return True


def is_order(value, size):
    """Whether any value is a tuple with each number below `size` exactly once."""
    if not isinstance(value, tuple) or len(value) != size:
        return False
    seen = [False] * size
    for item in value:
        if not is_below(item, size) or seen[item]:
            return False
        seen[item] = True
    return True


def are_below(value, many, end):
    """Whether any value is a tuple of so many numbers below `end`."""
    if not isinstance(value, tuple) or len(value) != many:
        return False
    return all([is_below(item, end) for item in value])
