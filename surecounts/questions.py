"""Questions: a weight for each cell; their number is a sum over the rows of a table."""

from surecounts.checks import check_below, is_whole
from surecounts.errors import InvalidFact, InvalidNumber, InvalidQuestion
from surecounts.grids import grid_product, grid_sum, grid_times, grid_turned, is_grid, is_line
from surecounts.tables import check_table
from surecounts.wheres import is_where, where_grid


def check_question(left, right, value):
    """Raises InvalidQuestion with any value that is no question with these sizes."""
    if not isinstance(value, Question) or value.left != left or value.right != right:
        raise InvalidQuestion(value)


def products(lefts, rights):
    """The grid of the products of the integers of two tuples."""
    return tuple([tuple([a * b for b in rights]) for a in lefts])


class Question:
    """A question that never changes."""

    def __init__(self, weights):
        if not is_grid(weights):
            raise InvalidQuestion(weights)
        self._weights = weights

    @classmethod
    def at(cls, left, right, where):
        """The number of rows in the cells of a where."""
        if not is_where(left, right, where):
            raise InvalidFact(where)
        return cls(where_grid(left, right, where))

    @classmethod
    def between(cls, lefts, rights):
        """The number of answers of a join: each cell has the product of the integers of its values."""
        for numbers in (lefts, rights):
            if not is_line(numbers):
                raise InvalidQuestion(numbers)
        return cls(products(lefts, rights))

    @property
    def weights(self):
        return self._weights

    @property
    def left(self):
        return len(self._weights)

    @property
    def right(self):
        return len(self._weights[0])

    def weight(self, left, right):
        """The weight of a cell."""
        check_below(self.left, left)
        check_below(self.right, right)
        return self._weights[left][right]

    def turned(self):
        """The question with the columns exchanged."""
        return Question(grid_turned(self._weights))

    def __call__(self, table):
        """The number of answers that a table has."""
        check_table(self.left, self.right, table)
        return sum(grid_product(self._weights, table.counts))

    def __add__(self, other):
        check_question(self.left, self.right, other)
        return Question(grid_sum(self._weights, other.weights))

    def __sub__(self, other):
        check_question(self.left, self.right, other)
        return Question(grid_sum(self._weights, grid_times(other.weights, -1)))

    def __mul__(self, other):
        if not is_whole(other):
            raise InvalidNumber(other)
        return Question(grid_times(self._weights, other))

    def __neg__(self):
        return Question(grid_times(self._weights, -1))

    def __eq__(self, other):
        return isinstance(other, Question) and self._weights == other._weights
