"""Ends: the least and the greatest number that a question can have, with a table and with prices that show it."""

from surecounts.contradictions import contradiction
from surecounts.errors import Contradictory
from surecounts.flows import has_high, solve
from surecounts.grids import zero_grid
from surecounts.questions import check_question
from surecounts.tables import Table


def solved(facts, weights):
    """The table and the prices of solve; raises Contradictory if no table fits."""
    lacking, counts, prices = solve(facts.left, facts.right, facts.listed(), weights)
    if lacking > 0:
        raise Contradictory(contradiction(facts)[0])
    return (Table(counts), prices)


def free_cell(facts, weights):
    """The first cell with a weight above 0 and no fact with a high over it, or None."""
    given = facts.listed()
    for a, line in enumerate(weights):
        for b, weight in enumerate(line):
            if weight > 0 and not has_high(given, a, b):
                return (a, b)
    return None


def fitting(facts):
    """A table that fits, or None."""
    lacking, counts, _ = solve(facts.left, facts.right, facts.listed(), zero_grid(facts.left, facts.right))
    return Table(counts) if lacking == 0 else None


def greatest(facts, question):
    """The greatest number, a table that has it and prices that show it; or None, a table that fits and a cell."""
    check_question(facts.left, facts.right, question)
    cell = free_cell(facts, question.weights)
    if cell is None:
        table, prices = solved(facts, question.weights)
        return (question(table), table, prices)
    table, _ = solved(facts, zero_grid(facts.left, facts.right))
    return (None, table, cell)


def least(facts, question):
    """The least number, a table that has it and prices that show it; or None, a table that fits and a cell."""
    check_question(facts.left, facts.right, question)
    number, table, shown = greatest(facts, -question)
    if number is None:
        return (None, table, shown)
    return (-number, table, tuple([-price for price in shown]))


def ends(facts, question):
    """The least and the greatest number."""
    return (least(facts, question)[0], greatest(facts, question)[0])
