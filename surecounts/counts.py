"""Further counts that make a question narrow, and facts that are enough for some questions."""

from itertools import combinations

from surecounts.checks import is_ascending, is_count, is_whole
from surecounts.contradictions import check_fitting
from surecounts.ends import ends, greatest, least
from surecounts.errors import InvalidFact, InvalidMembers, InvalidNumber, InvalidQuestion, LimitExceeded
from surecounts.facts import Facts
from surecounts.questions import Question, check_question
from surecounts.tables import rows_at

MOST_TRIES = 5000


class Tries:
    """How often something may still be tried."""

    def __init__(self, most):
        self._most = most
        self._left = most

    def take(self):
        """Takes one try; raises LimitExceeded if there is none left."""
        if self._left == 0:
            raise LimitExceeded(self._most)
        self._left -= 1


def check_most(most):
    """Raises InvalidNumber with any value that is no greatest number of tries."""
    if not is_whole(most) or not 1 <= most <= MOST_TRIES:
        raise InvalidNumber(most)


def check_counts(facts, question, wheres, width, most):
    """Raises the error of the first argument of wide or fewest that is none, or Contradictory."""
    check_question(facts.left, facts.right, question)
    if not isinstance(wheres, list):
        raise InvalidFact(None)
    # The class raises what is wrong with the wheres.
    Facts(facts.left, facts.right, facts.listed() + [(where, 0, None) for where in wheres])
    if not is_count(width):
        raise InvalidNumber(width)
    check_most(most)
    check_fitting(facts)


def with_more(question, table, cell, more):
    """The table with as many rows more in a cell as change the number of a question by more than a number."""
    weight = abs(question.weight(cell[0], cell[1]))
    return table + rows_at(table.left, table.right, cell, more // weight + 1)


def apart(facts, question, width):
    """Two tables that fit and whose numbers are further apart than width, or None."""
    low, table, shown = least(facts, question)
    if low is None:
        return (table, with_more(question, table, shown, width))
    high, other, shown = greatest(facts, question)
    if high is None:
        return (other, with_more(question, other, shown, width))
    return (table, other) if high - low > width else None


def first_wider(facts, question, wheres, numbers, width, tries):
    """The first numbers that some wheres can tell and that leave a question wider, with two tables, or None.

    The facts hold what was told already, and numbers are those of the wheres ahead.
    """
    if len(wheres) == 0:
        tries.take()
        found = apart(facts, question, width)
        return None if found is None else (numbers, *found)
    where = wheres[0]
    number, high = ends(facts, Question.at(facts.left, facts.right, where))
    while high is None or number <= high:
        told = facts.with_fact((where, number, number))
        found = first_wider(told, question, wheres[1:], numbers + (number,), width, tries)
        if found is not None:
            return found
        number += 1
    return None


def wide(facts, question, wheres, width, most=500):
    """The first numbers of wheres that leave a question wider than width, with two tables that have them, or None."""
    check_counts(facts, question, wheres, width, most)
    return first_wider(facts, question, wheres, (), width, Tries(most))


def fewest(facts, question, wheres, width, most=500):
    """The first of the smallest sets of wheres that make a question narrow, and why no smaller one does, or None."""
    check_counts(facts, question, wheres, width, most)
    tries = Tries(most)
    wider = []
    for many in range(len(wheres) + 1):
        for chosen in combinations(range(len(wheres)), many):
            found = first_wider(facts, question, [wheres[index] for index in chosen], (), width, tries)
            if found is None:
                return (chosen, [row for row in wider if len(row[0]) < many])
            wider.append((chosen, *found))
    return None


def check_questions(facts, questions):
    """Raises InvalidQuestion with any value that is no list, or with its first element that is no fitting question."""
    if not isinstance(questions, list):
        raise InvalidQuestion(questions)
    for question in questions:
        check_question(facts.left, facts.right, question)


def table_above(facts, question, high):
    """A table that fits and has a number above a greatest one, or None; nothing is above None."""
    if high is None:
        return None
    number, table, shown = greatest(facts, question)
    if number is None:
        return with_more(question, table, shown, max(0, high - question(table)))
    return table if number > high else None


def table_beyond(facts, question, known):
    """A table that fits and has a number beyond one of the known ends of a question, or None."""
    low, high = known
    table = table_above(facts, question, high)
    if table is None:
        table = table_above(facts, -question, None if low is None else -low)
    return table


def first_beyond(facts, questions, known, kept):
    """For facts by their indexes, the index of a question and a table beyond its known ends, or None."""
    alone = Facts(facts.left, facts.right, [facts.fact(index) for index in kept])
    for index, question in enumerate(questions):
        table = table_beyond(alone, question, known[index])
        if table is not None:
            return (index, table)
    return None


def is_enough(facts, questions, kept):
    """None if some facts leave the ends of all questions as they are; or a question's index and a table beyond."""
    check_questions(facts, questions)
    if not is_ascending(len(facts), kept):
        raise InvalidMembers(kept)
    check_fitting(facts)
    return first_beyond(facts, questions, [ends(facts, question) for question in questions], kept)


def shown_beyond(shown, kept):
    """The index and the table of the first of some tuples (index, table, broken) that breaks no kept fact, or None."""
    for index, table, broken in shown:
        if not any([fact in kept for fact in broken]):
            return (index, table)
    return None


def least_facts(facts, questions, most=500):
    """The first of the smallest tuples of facts that are enough, and why no smaller one is."""
    check_questions(facts, questions)
    check_most(most)
    check_fitting(facts)
    known = [ends(facts, question) for question in questions]
    tries = Tries(most)
    beyond = []
    shown = []
    for many in range(len(facts)):
        for kept in combinations(range(len(facts)), many):
            tries.take()
            # Most tuples are answered by a table that was found for another one, which is far quicker.
            found = shown_beyond(shown, kept)
            if found is None:
                found = first_beyond(facts, questions, known, kept)
                if found is None:
                    return (kept, [row for row in beyond if len(row[0]) < many])
                shown.append((*found, facts(found[1])))
            beyond.append((kept, *found))
    tries.take()
    return (tuple(range(len(facts))), beyond)
