"""Stars: columns whose heights are known, and kept columns with a spread for each bucket, all joined on one value."""

from surecounts.checks import is_ascending
from surecounts.errors import InvalidColumn, InvalidMembers
from surecounts.joins import greatest_along, is_column, products_of, sum_of_products
from surecounts.spreads import Spread, is_heights

MOST_COLUMNS = 4
MOST_MEMBERS = 5


def are_keys(value):
    """Whether any value is a tuple of one to four columns of the same values."""
    if not isinstance(value, tuple) or not 1 <= len(value) <= MOST_COLUMNS:
        return False
    if not all([is_column(column) for column in value]):
        return False
    return all([len(column) == len(value[0]) for column in value])


def is_kept_column(value):
    """Whether any value is a tuple of at least one spread."""
    return isinstance(value, tuple) and len(value) > 0 and all([isinstance(spread, Spread) for spread in value])


def are_kept_columns(value):
    """Whether any value is a tuple of one to four tuples of at least one spread."""
    if not isinstance(value, tuple) or not 1 <= len(value) <= MOST_COLUMNS:
        return False
    return all([is_kept_column(column) for column in value])


def sizes_of(column):
    """The list of the sizes of the buckets of a kept column."""
    return [spread.size for spread in column]


def places_of(column):
    """For each bucket of a kept column, the tuple of its first value and the one behind its last."""
    places = []
    start = 0
    for size in sizes_of(column):
        places.append((start, start + size))
        start += size
    return places


def check_star(keys, columns):
    """Raises InvalidColumn with the word of the first thing that makes these no star."""
    if not are_keys(keys):
        raise InvalidColumn("keys")
    if not are_kept_columns(columns):
        raise InvalidColumn("columns")
    if len(keys) + len(columns) > MOST_MEMBERS:
        raise InvalidColumn("members")
    sizes = sizes_of(columns[0])
    if sum(sizes) != len(keys[0]) or any([sizes_of(column) != sizes for column in columns]):
        raise InvalidColumn("sizes")


def fits(column, value):
    """Whether any value is heights of all values that fit the spreads of a kept column."""
    places = places_of(column)
    if not is_heights(places[-1][1], value):
        return False
    return all([value[start:stop] in spread for spread, (start, stop) in zip(column, places)])


class Star:
    """A star that never changes."""

    def __init__(self, keys, columns):
        check_star(keys, columns)
        self._keys = keys
        self._columns = columns
        self._members = keys + columns

    def greatest(self, members):
        """The greatest number of answers, and heights of all values for each kept member that reach it together."""
        self._check_members(members)
        whole = [self._keys[member] for member in members if member < len(self._keys)]
        kept = [self._members[member] for member in members if member >= len(self._keys)]
        keys = products_of(len(self._keys[0]), whole)
        if len(kept) == 0:
            return (sum(keys), ())
        total = 0
        heights = [()] * len(kept)
        for bucket, (start, stop) in enumerate(places_of(kept[0])):
            number, found = greatest_along(keys[start:stop], [column[bucket] for column in kept])
            total += number
            heights = [ahead + more for ahead, more in zip(heights, found)]
        return (total, tuple(heights))

    def answers(self, members, columns):
        """The number of answers with heights for all kept columns."""
        self._check_members(members)
        if not isinstance(columns, tuple) or len(columns) != len(self._columns):
            raise InvalidColumn(None)
        for place, column in enumerate(columns):
            if not fits(self._columns[place], column):
                raise InvalidColumn(place)
        known = self._keys + columns
        return sum_of_products([known[member] for member in members])

    def _check_members(self, members):
        """Raises InvalidMembers with any value that is no ascending tuple of at least one member."""
        if not is_ascending(len(self._members), members) or len(members) == 0:
            raise InvalidMembers(members)

    def __len__(self):
        return len(self._members)
