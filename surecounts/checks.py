"""What integers, sizes and values are, and the errors for what is none."""

from surecounts.errors import InvalidNumber

MOST_VALUES = 8


def is_whole(value):
    """Whether any value is an integer; True and False are none, though Python counts them as 1 and 0."""
    return isinstance(value, int) and not isinstance(value, bool)


def is_count(value):
    """Whether any value is an integer from 0."""
    return is_whole(value) and value >= 0


def is_below(size, value):
    """Whether any value is an integer from 0 to size - 1: a value of a column, or an index."""
    return is_whole(value) and 0 <= value < size


def is_ascending(size, value):
    """Whether any value is a tuple of different integers from 0 to size - 1, ascending."""
    if not isinstance(value, tuple) or not all([is_below(size, entry) for entry in value]):
        return False
    return all([low < high for low, high in zip(value, value[1:])])


def is_size(value):
    """Whether any value is the size of a column."""
    return is_whole(value) and 1 <= value <= MOST_VALUES


def check_sizes(left, right):
    """Raises InvalidNumber with the first of two values that is no size of a column."""
    for size in (left, right):
        if not is_size(size):
            raise InvalidNumber(size)


def check_below(size, value):
    """Raises InvalidNumber with a value that is no integer from 0 to size - 1."""
    if not is_below(size, value):
        raise InvalidNumber(value)
