"""Grids: a tuple with, for each left value, the tuple of the integers with each right value."""

from surecounts.checks import MOST_VALUES, is_whole


def is_line(value):
    """Whether any value is a tuple of one to eight integers."""
    if not isinstance(value, tuple) or not 1 <= len(value) <= MOST_VALUES:
        return False
    return all([is_whole(entry) for entry in value])


def is_grid(value):
    """Whether any value is a tuple of one to eight tuples of as many integers, one to eight."""
    if not isinstance(value, tuple) or not 1 <= len(value) <= MOST_VALUES:
        return False
    if not all([is_line(line) for line in value]):
        return False
    return all([len(line) == len(value[0]) for line in value])


def zero_grid(left, right):
    """The grid with 0 everywhere."""
    return ((0,) * right,) * left


def grid_sum(one, other):
    """The grid of the sums of two grids of the same sizes, cell by cell."""
    return tuple([tuple([a + b for a, b in zip(line, row)]) for line, row in zip(one, other)])


def grid_product(one, other):
    """The list of the products of two grids of the same sizes, cell by cell."""
    return [a * b for line, row in zip(one, other) for a, b in zip(line, row)]


def grid_times(grid, factor):
    """The grid with each integer times a factor."""
    return tuple([tuple([entry * factor for entry in line]) for line in grid])


def grid_turned(grid):
    """The grid with the columns exchanged."""
    return tuple([tuple([line[right] for line in grid]) for right in range(len(grid[0]))])
