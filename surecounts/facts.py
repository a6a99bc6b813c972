"""Facts: how many rows some cells of a kept table have at least and at most."""

from surecounts.checks import check_below, check_sizes, is_count, is_whole
from surecounts.errors import InvalidFact
from surecounts.tables import check_table, is_table
from surecounts.wheres import cells, covers, has_where_form, is_where

MOST_FACTS = 40


def is_fact(left, right, value):
    """Whether any value is a fact, for two sizes that have been looked at."""
    if not isinstance(value, tuple) or len(value) != 3:
        return False
    where, low, high = value
    if not has_where_form(left, right, where) or not is_count(low):
        return False
    return high is None or (is_whole(high) and high >= low)


def crosses(one, other):
    """Whether two wheres are sets of one column that are neither nested nor apart."""
    if one[0] != other[0] or one[0] not in ("left", "right"):
        return False
    common = len([value for value in one[1] if value in other[1]])
    return 0 < common < min(len(one[1]), len(other[1]))


def first_crossing(facts):
    """The indexes of the first two facts whose sets are neither nested nor apart, or None."""
    for index, fact in enumerate(facts):
        for other in range(index + 1, len(facts)):
            if crosses(fact[0], facts[other][0]):
                return (index, other)
    return None


def check_facts(left, right, facts):
    """Raises InvalidFact for what is no list of facts, for two sizes that have been looked at."""
    if not isinstance(facts, (list, tuple)) or len(facts) > MOST_FACTS:
        raise InvalidFact(None)
    for index, fact in enumerate(facts):
        if not is_fact(left, right, fact):
            raise InvalidFact(index)
    pair = first_crossing(facts)
    if pair is not None:
        raise InvalidFact(pair)


def rows_in(table, where):
    """The number of rows that a table has in the cells of a where."""
    return sum([table.counts[a][b] for a, b in cells(table.left, table.right, where)])


def is_true(fact, table):
    """Whether a table has as many rows as a fact tells."""
    rows = rows_in(table, fact[0])
    return fact[1] <= rows and (fact[2] is None or rows <= fact[2])


class Facts:
    """The facts that are known of a kept table; they never change."""

    def __init__(self, left, right, facts=()):
        check_sizes(left, right)
        check_facts(left, right, facts)
        self._left = left
        self._right = right
        self._facts = tuple(facts)

    @property
    def left(self):
        return self._left

    @property
    def right(self):
        return self._right

    def fact(self, index):
        """The fact with an index."""
        check_below(len(self._facts), index)
        return self._facts[index]

    def without(self, index):
        """The facts without the one with an index."""
        check_below(len(self._facts), index)
        return Facts(self._left, self._right, self._facts[:index] + self._facts[index + 1:])

    def listed(self):
        """The list of all facts."""
        return list(self._facts)

    def with_fact(self, fact):
        """The facts with one more at the end."""
        return Facts(self._left, self._right, self._facts + (fact,))

    def over(self, left, right):
        """The ascending list of the indexes of the facts over a cell."""
        check_below(self._left, left)
        check_below(self._right, right)
        return [index for index, fact in enumerate(self._facts) if covers(fact[0], left, right)]

    def limits(self, where):
        """The greatest low and the least high of the facts with just this where."""
        if not is_where(self._left, self._right, where):
            raise InvalidFact(where)
        same = [fact for fact in self._facts if fact[0] == where]
        lows = [fact[1] for fact in same]
        highs = [fact[2] for fact in same if fact[2] is not None]
        return (max(lows, default=0), min(highs, default=None))

    def __and__(self, other):
        if not isinstance(other, Facts) or self._left != other._left or self._right != other._right:
            raise InvalidFact(None)
        return Facts(self._left, self._right, self._facts + other._facts)

    def __contains__(self, table):
        return is_table(self._left, self._right, table) and all([is_true(fact, table) for fact in self._facts])

    def __call__(self, table):
        """The ascending list of the indexes of the facts that a table breaks."""
        check_table(self._left, self._right, table)
        return [index for index, fact in enumerate(self._facts) if not is_true(fact, table)]

    def __len__(self):
        return len(self._facts)

    def __eq__(self, other):
        return (isinstance(other, Facts) and self._left == other._left and self._right == other._right
                and self._facts == other._facts)
