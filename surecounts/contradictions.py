"""Contradictions: facts that no table fits, and why."""

from surecounts.checks import is_ascending
from surecounts.errors import Contradictory
from surecounts.facts import is_true
from surecounts.flows import solve
from surecounts.grids import zero_grid
from surecounts.papers import upper
from surecounts.questions import Question
from surecounts.tables import Table, is_table


def attempted(facts, part):
    """For a list of indexes of facts, the tuple (table, prices).

    The table fits these facts, or is None; the prices, 0 at all other facts, then show a number below 0.
    """
    given = [facts.fact(index) for index in part]
    lacking, counts, shown = solve(facts.left, facts.right, given, zero_grid(facts.left, facts.right))
    prices = [0] * len(facts)
    for index, price in zip(part, shown):
        prices[index] = price
    return (Table(counts) if lacking == 0 else None, tuple(prices))


def contradiction(facts):
    """A contradiction, or None if some table fits."""
    part = list(range(len(facts)))
    table, prices = attempted(facts, part)
    if table is not None:
        return None
    tables = []
    for index in range(len(facts)):
        others = [other for other in part if other != index]
        if prices[index] == 0:
            # The prices show that the others contradict each other without this fact, too.
            part = others
            continue
        table, shown = attempted(facts, others)
        if table is None:
            part = others
            prices = shown
        else:
            tables.append(table)
    return (tuple(part), prices, tuple(tables))


def fits_others(facts, part, index, value):
    """Whether any value is a table that fits the facts of a part but one."""
    if not is_table(facts.left, facts.right, value):
        return False
    return all([is_true(facts.fact(other), value) for other in part if other != index])


def is_contradiction(facts, value):
    """Whether any value is a contradiction."""
    if not isinstance(value, tuple) or len(value) != 3:
        return False
    part, prices, tables = value
    if not is_ascending(len(facts), part) or not isinstance(tables, tuple) or len(tables) != len(part):
        return False
    number = upper(facts, Question(zero_grid(facts.left, facts.right)), prices)
    if number is None or number >= 0:
        return False
    if any([price != 0 and index not in part for index, price in enumerate(prices)]):
        return False
    return all([fits_others(facts, part, index, table) for index, table in zip(part, tables)])


def least_part(facts):
    """The part that is left when each fact is left out without which the others still contradict each other."""
    # The facts are gone through from the first one there, too.
    found = contradiction(facts)
    return None if found is None else found[0]


def check_fitting(facts):
    """Raises Contradictory with the part of a contradiction if no table fits."""
    found = contradiction(facts)
    if found is not None:
        raise Contradictory(found[0])
