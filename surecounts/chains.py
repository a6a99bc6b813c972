"""Chains: whole tables and one kept table among them, each joined with the next one."""

from surecounts.checks import is_whole
from surecounts.errors import InvalidChain, InvalidMembers
from surecounts.facts import Facts
from surecounts.questions import Question
from surecounts.tables import Table, check_table

MOST_TABLES = 6


def is_tables(value):
    """Whether any value is a tuple of tables."""
    return isinstance(value, tuple) and all([isinstance(table, Table) for table in value])


def check_parts(before, facts, behind):
    """Raises InvalidChain with the word of the first part of a chain that is none."""
    if not is_tables(before):
        raise InvalidChain("before")
    if not isinstance(facts, Facts):
        raise InvalidChain("facts")
    if not is_tables(behind):
        raise InvalidChain("behind")
    if not 2 <= len(before) + 1 + len(behind) <= MOST_TABLES:
        raise InvalidChain("tables")


def check_neighbors(joined):
    """Raises InvalidChain with the number of the first one whose left size is not the right size ahead of it."""
    for number in range(1, len(joined)):
        if joined[number].left != joined[number - 1].right:
            raise InvalidChain(number)


def ways_on(ways, table):
    """For each right value of a table, the ways to it, given the ways to each left value."""
    return tuple([sum([many * line[b] for many, line in zip(ways, table.counts)]) for b in range(table.right)])


def ways_through(size, tables):
    """For each value at which they end, the ways to choose one row of each of some neighboring tables.

    They start from a column of this size; without tables they end there, too.
    """
    ways = (1,) * size
    for table in tables:
        ways = ways_on(ways, table)
    return ways


def answers_of(tables):
    """The number of ways to choose one row of each of some neighboring tables."""
    return sum(ways_through(tables[0].left, tables))


class Chain:
    """A chain that never changes."""

    def __init__(self, before, facts, behind):
        check_parts(before, facts, behind)
        check_neighbors([*before, facts, *behind])
        self._kept = len(before)
        self._parts = (*before, facts, *behind)

    @property
    def kept(self):
        return self._kept

    @property
    def facts(self):
        return self._parts[self._kept]

    def question(self, start, stop):
        """The question of an interval with the kept table."""
        if not self._is_interval(start, stop) or not start <= self._kept < stop:
            raise InvalidMembers((start, stop))
        ahead = self._parts[start:self._kept]
        behind = [table.turned() for table in self._parts[self._kept + 1:stop]]
        lefts = ways_through(self._parts[start].left, ahead)
        rights = ways_through(self._parts[stop - 1].right, behind[::-1])
        return Question.between(lefts, rights)

    def whole(self, start, stop):
        """The number of answers of an interval without the kept table."""
        if not self._is_interval(start, stop) or start <= self._kept < stop:
            raise InvalidMembers((start, stop))
        return answers_of(self._parts[start:stop])

    def answers(self, start, stop, table):
        """The number of answers of an interval with a table in the kept one's place."""
        if not self._is_interval(start, stop):
            raise InvalidMembers((start, stop))
        check_table(self.facts.left, self.facts.right, table)
        tables = self._parts[:self._kept] + (table,) + self._parts[self._kept + 1:]
        return answers_of(tables[start:stop])

    def _is_interval(self, start, stop):
        """Whether two values of any kind are the ends of an interval of at least one table."""
        return is_whole(start) and is_whole(stop) and 0 <= start < stop <= len(self._parts)

    def __len__(self):
        return len(self._parts)
