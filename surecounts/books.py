"""Books: the facts of a kept table while rows come and go and are counted, and all changes, to be taken back."""

from surecounts.checks import check_below, is_count, is_whole
from surecounts.contradictions import check_fitting
from surecounts.ends import greatest
from surecounts.errors import Contradictory, InvalidFact, InvalidNumber, MissingRows, NothingToUndo
from surecounts.facts import Facts
from surecounts.questions import Question
from surecounts.tables import check_table, rows_at
from surecounts.trials import Held, Trial
from surecounts.wheres import covers, is_where


def check_rows(facts, left, right, many):
    """Raises InvalidNumber with the first of three values that is no value of its column or no number of rows."""
    check_below(facts.left, left)
    check_below(facts.right, right)
    if not is_whole(many) or many < 1:
        raise InvalidNumber(many)


def moved_fact(fact, many):
    """A fact behind so many rows more in its cells; a low not below 0."""
    where, low, high = fact
    return (where, max(0, low + many), None if high is None else high + many)


def moved_facts(facts, left, right, many):
    """The list of the facts behind so many rows more in a cell."""
    return [moved_fact(fact, many) if covers(fact[0], left, right) else fact for fact in facts.listed()]


def with_rows(facts, left, right, many):
    """The facts behind rows that were put into a cell."""
    listed = moved_facts(facts, left, right, many)
    where = ("cell", left, right)
    if where not in [fact[0] for fact in listed]:
        listed.append((where, many, None))
    return Facts(facts.left, facts.right, listed)


def without_rows(facts, left, right, many):
    """The facts behind rows that were taken from a cell; raises MissingRows if no table has so many there."""
    most = greatest(facts, Question.at(facts.left, facts.right, ("cell", left, right)))[0]
    if most is not None and most < many:
        raise MissingRows(most)
    return Facts(facts.left, facts.right, moved_facts(facts, left, right, -many))


def with_count(facts, where, number):
    """The facts behind a count of the rows in a where, whether it is allowed or not."""
    listed = [(where, number, number) if fact[0] == where else fact for fact in facts.listed()]
    if where not in [fact[0] for fact in listed]:
        listed.append((where, number, number))
    return Facts(facts.left, facts.right, listed)


def check_count(facts, where, number):
    """Raises Contradictory with the index of the first fact with just this where that a count of its rows breaks."""
    for index, (told, low, high) in enumerate(facts.listed()):
        if told == where and (number < low or (high is not None and number > high)):
            raise Contradictory((index,))


class Book:
    """The facts of a kept table, and its changes."""

    def __init__(self, facts):
        if not isinstance(facts, Facts):
            raise InvalidFact(facts)
        check_fitting(facts)
        # The facts of now, and for each change the facts ahead of it and the change.
        self._held = Held((facts, ()))

    @property
    def facts(self):
        return self._held.current()[0]

    def insert(self, left, right, many=1):
        """Puts rows into a cell."""
        facts = self.facts
        check_rows(facts, left, right, many)
        self._change(with_rows(facts, left, right, many), ("insert", left, right, many))

    def remove(self, left, right, many=1):
        """Takes rows from a cell."""
        facts = self.facts
        check_rows(facts, left, right, many)
        self._change(without_rows(facts, left, right, many), ("remove", left, right, many))

    def recount(self, where, number):
        """Puts the number of the rows in a where, which was counted, in the place of what was known of it."""
        facts = self.facts
        if not is_where(facts.left, facts.right, where):
            raise InvalidFact(where)
        if not is_count(number):
            raise InvalidNumber(number)
        counted = with_count(facts, where, number)
        check_count(facts, where, number)
        check_fitting(counted)
        self._change(counted, ("recount", where, number))

    def undo(self):
        """Takes the last change back."""
        changes = self._held.current()[1]
        if len(changes) == 0:
            raise NothingToUndo("undo")
        self._held.put((changes[-1][0], changes[:-1]))

    def history(self):
        """The list of the changes."""
        return [change for _, change in self._held.current()[1]]

    def applied(self, table):
        """The table behind the changes that insert or remove, in order."""
        facts = self.facts
        check_table(facts.left, facts.right, table)
        for change in self.history():
            if change[0] == "insert":
                table = table + rows_at(facts.left, facts.right, change[1:3], change[3])
            if change[0] == "remove":
                table = table - rows_at(facts.left, facts.right, change[1:3], change[3])
        return table

    def copy(self):
        """An independent book with the same facts and the same changes to take back."""
        other = Book(self.facts)
        other._held.put(self._held.current())
        return other

    def attempt(self, visitor):
        """What a function returns that is called with the book; afterwards the book is as before."""
        with Trial(self) as book:
            return visitor(book)

    def all_held(self):
        """The list of all that a trial of the book brings back."""
        return [self._held]

    def _change(self, facts, change):
        """Takes other facts for those of now."""
        former, changes = self._held.current()
        self._held.put((facts, changes + ((former, change),)))

    def __len__(self):
        return len(self._held.current()[1])

    def __eq__(self, other):
        return isinstance(other, Book) and self.facts == other.facts and self.history() == other.history()


def redo(book, change):
    """Does a change, a tuple as in a history, once more."""
    if change[0] == "insert":
        book.insert(change[1], change[2], change[3])
    elif change[0] == "remove":
        book.remove(change[1], change[2], change[3])
    else:
        book.recount(change[1], change[2])
