"""Spreads: how many rows and different values a bucket of a column has, and how many rows one value at most."""

from surecounts.checks import is_count, is_whole
from surecounts.errors import Contradictory, InvalidNumber, InvalidSpread

MOST_HEIGHTS = 64


def is_limits(value):
    """Whether any value is a tuple of a low and a high, integers from 0."""
    if not isinstance(value, tuple) or len(value) != 2:
        return False
    return is_count(value[0]) and is_count(value[1]) and value[0] <= value[1]


def is_most(value):
    """Whether any value is the greatest count that a value may have: an integer from 1, or None."""
    return value is None or (is_whole(value) and value >= 1)


def is_possible(rows, different, most):
    """Whether so many rows can have so many different values."""
    if different == 0:
        return rows == 0
    return different <= rows and (most is None or rows <= different * most)


def least_greatest(rows, different, most):
    """The limits of the rows with so many different values; they cross if no pair is possible."""
    if different == 0:
        return (rows[0], min(rows[1], 0))
    return (max(rows[0], different), rows[1] if most is None else min(rows[1], different * most))


def possible_pairs(size, rows, different, most):
    """The list of the tuples (different, least rows, greatest rows) of all possible pairs within the limits."""
    found = [(many, least_greatest(rows, many, most)) for many in range(different[0], min(different[1], size) + 1)]
    return [(many, least, greatest) for many, (least, greatest) in found if least <= greatest]


def steep_heights(rows, different, most):
    """The heights of steep for a possible pair."""
    more = rows - different
    if more == 0:
        return (1,) * different
    if most is None:
        return (1 + more,) + (1,) * (different - 1)
    full, rest = divmod(more, most - 1)
    between = (1 + rest,) if full < different else ()
    return (most,) * full + between + (1,) * (different - full - 1)


def level_heights(rows, different):
    """The heights of level for a possible pair."""
    if different == 0:
        return ()
    share, more = divmod(rows, different)
    return (share + 1,) * more + (share,) * (different - more)


def padded(heights, size):
    """Heights with 0 behind them for the values that do not occur."""
    return heights + (0,) * (size - len(heights))


def check_pair(rows, different):
    """Raises InvalidNumber with the first of both that is no number of rows, or of different values."""
    if not is_count(rows):
        raise InvalidNumber(rows)
    if not is_count(different) or different > MOST_HEIGHTS:
        raise InvalidNumber(different)


def steep(rows, different, most=None):
    """The heights of the values that occur, falling: as many as can be have most."""
    check_pair(rows, different)
    if not is_most(most):
        raise InvalidNumber(most)
    if not is_possible(rows, different, most):
        raise InvalidSpread((rows, different, most))
    return steep_heights(rows, different, most)


def level(rows, different):
    """The heights of the values that occur, falling: they differ by at most 1."""
    check_pair(rows, different)
    if not is_possible(rows, different, None):
        raise InvalidSpread((rows, different))
    return level_heights(rows, different)


def most_rows_in(many, rows, different, most):
    """The greatest number of rows that so many values can have, for a possible pair."""
    if different < many:
        return rows
    if many == 0:
        return 0
    others = rows - (different - many)
    return others if most is None else min(many * most, others)


def least_rows_in(common, apart, rows, most):
    """The least number of rows in so many values that all occur, while apart others occur, for a possible pair."""
    if apart == 0:
        return rows
    return common if most is None else max(common, rows - apart * most)


def is_heights(size, value):
    """Whether any value is heights of a bucket."""
    return isinstance(value, tuple) and len(value) == size and all([is_count(height) for height in value])


def is_within(limits, number):
    """Whether a number is between a low and a high."""
    return limits[0] <= number <= limits[1]


def common_limits(limits, other):
    """The limits of what both tell; they may cross."""
    return (max(limits[0], other[0]), min(limits[1], other[1]))


def lesser_most(most, other):
    """What both tell of the greatest count that a value may have."""
    return min([told for told in (most, other) if told is not None], default=None)


def moved(limits, steps):
    """Limits behind a step of each of them; a low not below 0. Nothing is within a high below 0."""
    return (max(0, limits[0] + steps[0]), limits[1] + steps[1])


def check_spread(value):
    """Raises InvalidSpread with any value that is no spread."""
    if not isinstance(value, Spread):
        raise InvalidSpread(value)


class Spread:
    """A spread that never changes."""

    def __init__(self, size, rows, different, most=None):
        if not is_whole(size) or not 1 <= size <= MOST_HEIGHTS:
            raise InvalidNumber(size)
        for limits in (rows, different):
            if not is_limits(limits):
                raise InvalidSpread(limits)
        if not is_most(most):
            raise InvalidSpread(most)
        if len(possible_pairs(size, rows, different, most)) == 0:
            raise Contradictory((size, rows, different, most))
        self._size = size
        self._rows = rows
        self._different = different
        self._most = most

    @property
    def size(self):
        return self._size

    @property
    def rows(self):
        return self._rows

    @property
    def different(self):
        return self._different

    @property
    def most(self):
        return self._most

    def pairs(self):
        """For each number of different values that occurs in a possible pair: it, the least and the greatest rows."""
        for pair in possible_pairs(self._size, self._rows, self._different, self._most):
            yield pair

    def narrowed(self):
        """The spread with the least and the greatest rows and different values that occur."""
        found = list(self.pairs())
        rows = (min([pair[1] for pair in found]), max([pair[2] for pair in found]))
        return Spread(self._size, rows, (found[0][0], found[-1][0]), self._most)

    def greatest_in(self, many):
        """How many rows the first many values can have at most, and heights that have them."""
        self._check_many(many)
        found = [(most_rows_in(many, rows, different, self._most), rows, different)
                 for different, _, rows in self.pairs()]
        number, rows, different = max(found)
        return (number, padded(steep_heights(rows, different, self._most), self._size))

    def least_in(self, many):
        """How many rows the first many values can have at least, and heights that have them."""
        self._check_many(many)
        found = []
        for different, rows, _ in self.pairs():
            apart = min(different, self._size - many)
            found.append((least_rows_in(different - apart, apart, rows, self._most), rows, different))
        number, rows, different = min(found)
        apart = min(different, self._size - many)
        return (number, padded(level_heights(number, different - apart), many)
                + padded(level_heights(rows - number, apart), self._size - many))

    def grown(self, known=None):
        """Behind one row more, of a value that did occur (known True), did not (False), or either (None)."""
        if known is None:
            return self._changed((1, 1), (0, 1), 1)
        if known is True:
            return self._changed((1, 1), (0, 0), 1)
        if known is False:
            return self._changed((1, 1), (1, 1), 0)
        raise InvalidSpread(known)

    def shrunk(self, last=None):
        """Behind one row less, of a value that occurs no more then (last True), still occurs (False), or either."""
        if last is None:
            return self._changed((-1, -1), (-1, 0), 0)
        if last is True:
            return self._changed((-1, -1), (-1, -1), 0)
        if last is False:
            return self._changed((-1, -1), (0, 0), 0)
        raise InvalidSpread(last)

    def _check_many(self, many):
        """Raises InvalidNumber with any value that is no number of values."""
        if not is_count(many) or many > self._size:
            raise InvalidNumber(many)

    def _changed(self, row_steps, different_steps, more):
        """The spread with other limits; raises Contradictory with the four of this one if there is none."""
        rows = moved(self._rows, row_steps)
        different = moved(self._different, different_steps)
        most = None if self._most is None else self._most + more
        if len(possible_pairs(self._size, rows, different, most)) == 0:
            raise Contradictory((self._size, self._rows, self._different, self._most))
        return Spread(self._size, rows, different, most)

    def __contains__(self, heights):
        if not is_heights(self._size, heights) or not is_within(self._rows, sum(heights)):
            return False
        if not is_within(self._different, len([height for height in heights if height > 0])):
            return False
        return self._most is None or max(heights) <= self._most

    def __and__(self, other):
        if not isinstance(other, Spread) or other._size != self._size:
            raise InvalidSpread(other)
        rows = common_limits(self._rows, other._rows)
        different = common_limits(self._different, other._different)
        most = lesser_most(self._most, other._most)
        if len(possible_pairs(self._size, rows, different, most)) == 0:
            raise Contradictory((self._size, rows, different, most))
        return Spread(self._size, rows, different, most)

    def __eq__(self, other):
        return (isinstance(other, Spread) and self._size == other._size and self._rows == other._rows
                and self._different == other._different and self._most == other._most)
