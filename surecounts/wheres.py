"""Wheres: tuples that stand for some cells of a table."""

from surecounts.checks import check_sizes, is_ascending, is_below
from surecounts.errors import InvalidFact


def is_values(size, value):
    """Whether any value is a nonempty tuple of different values of a column, ascending."""
    return is_ascending(size, value) and len(value) > 0


def has_where_form(left, right, value):
    """Whether any value is a where, for two sizes that have been looked at."""
    if not isinstance(value, tuple) or len(value) == 0 or not isinstance(value[0], str):
        return False
    if value[0] == "all":
        return len(value) == 1
    if value[0] == "left":
        return len(value) == 2 and is_values(left, value[1])
    if value[0] == "right":
        return len(value) == 2 and is_values(right, value[1])
    return value[0] == "cell" and len(value) == 3 and is_below(left, value[1]) and is_below(right, value[2])


def is_where(left, right, value):
    """Whether any value is a where for two sizes."""
    check_sizes(left, right)
    return has_where_form(left, right, value)


def covers(where, left, right):
    """Whether a cell is one of those that a where stands for."""
    if where[0] == "left":
        return left in where[1]
    if where[0] == "right":
        return right in where[1]
    return where[0] == "all" or where[1:] == (left, right)


def where_grid(left, right, where):
    """The grid with 1 in the cells of a where, 0 elsewhere."""
    return tuple([
        tuple([1 if covers(where, a, b) else 0 for b in range(right)])
        for a in range(left)
    ])


def cells(left, right, where):
    """The ascending list of the cells of a where."""
    if not is_where(left, right, where):
        raise InvalidFact(where)
    return [(a, b) for a in range(left) for b in range(right) if covers(where, a, b)]
