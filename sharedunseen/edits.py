"""Stores that are changed while they are in use."""


def extends(one, other):
    """Whether `one` has the states, the offices and the operations of `other`, and perhaps more."""
    if one.size != other.size or len(one.offices) < len(other.offices):
        return False
    for office, operations in enumerate(other.offices):
        if [operation for operation in operations if operation not in one.offices[office]]:
            return False
    return True
