"""Tables: how often each row, a left and a right value, is there."""

from surecounts.checks import check_below, check_sizes, is_below, is_count
from surecounts.errors import InvalidNumber, InvalidTable, MissingRows
from surecounts.grids import grid_sum, grid_times, grid_turned, is_grid


def is_counts(value):
    """Whether any value is the counts of a table."""
    return is_grid(value) and all([entry >= 0 for line in value for entry in line])


def is_row(left, right, value):
    """Whether any value is a row, or a cell, of a table with these sizes."""
    if not isinstance(value, tuple) or len(value) != 2:
        return False
    return is_below(left, value[0]) and is_below(right, value[1])


def is_table(left, right, value):
    """Whether any value is a table with these sizes."""
    return isinstance(value, Table) and value.left == left and value.right == right


def check_table(left, right, value):
    """Raises InvalidTable with any value that is no table with these sizes."""
    if not is_table(left, right, value):
        raise InvalidTable(value)


def rows_at(left, right, cell, many):
    """The table with so many rows in a cell, and no others."""
    return Table(tuple([tuple([many if (a, b) == cell else 0 for b in range(right)]) for a in range(left)]))


class Table:
    """A table that never changes."""

    def __init__(self, counts):
        if not is_counts(counts):
            raise InvalidTable(counts)
        self._counts = counts

    @classmethod
    def of_rows(cls, left, right, rows):
        """The table with two sizes and these rows, in any order."""
        check_sizes(left, right)
        counts = [[0] * right for _ in range(left)]
        for row in rows:
            if not is_row(left, right, row):
                raise InvalidTable(row)
            counts[row[0]][row[1]] += 1
        return cls(tuple([tuple(line) for line in counts]))

    @property
    def counts(self):
        return self._counts

    @property
    def left(self):
        return len(self._counts)

    @property
    def right(self):
        return len(self._counts[0])

    @property
    def total(self):
        return sum([sum(line) for line in self._counts])

    def count(self, left, right):
        """The number of rows of a cell."""
        check_below(self.left, left)
        check_below(self.right, right)
        return self._counts[left][right]

    def lefts(self):
        """The list of the numbers of rows with each left value."""
        return [sum(line) for line in self._counts]

    def rights(self):
        """The list of the numbers of rows with each right value."""
        return [sum(line) for line in grid_turned(self._counts)]

    def turned(self):
        """The table with the columns exchanged."""
        return Table(grid_turned(self._counts))

    def each(self):
        """All rows, ascending, each as often as it is there."""
        for left, line in enumerate(self._counts):
            for right, many in enumerate(line):
                for _ in range(many):
                    yield (left, right)

    def __contains__(self, row):
        return is_row(self.left, self.right, row) and self._counts[row[0]][row[1]] > 0

    def __add__(self, other):
        check_table(self.left, self.right, other)
        return Table(grid_sum(self._counts, other.counts))

    def __sub__(self, other):
        check_table(self.left, self.right, other)
        counts = grid_sum(self._counts, grid_times(other.counts, -1))
        missing = sum([max(0, -many) for line in counts for many in line])
        if missing > 0:
            raise MissingRows(missing)
        return Table(counts)

    def __mul__(self, other):
        if not is_count(other):
            raise InvalidNumber(other)
        return Table(grid_times(self._counts, other))

    def __eq__(self, other):
        return isinstance(other, Table) and self._counts == other._counts
