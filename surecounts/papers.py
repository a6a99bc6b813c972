"""Papers: what prices show of a question, and whether a result is what it says."""

from surecounts.checks import is_whole
from surecounts.flows import has_high
from surecounts.questions import check_question
from surecounts.tables import is_row


def is_prices(facts, value):
    """Whether any value is a tuple with an integer for each fact."""
    return isinstance(value, tuple) and len(value) == len(facts) and all([is_whole(price) for price in value])


def over_cell(facts, prices, left, right):
    """The sum of the prices of the facts over a cell."""
    return sum([prices[index] for index in facts.over(left, right)])


def covered(facts, question, prices):
    """Whether the prices over each cell are together at least its weight."""
    return all([
        over_cell(facts, prices, a, b) >= question.weight(a, b)
        for a in range(facts.left) for b in range(facts.right)
    ])


def upper(facts, question, prices):
    """The number that prices show from above, or None."""
    check_question(facts.left, facts.right, question)
    if not is_prices(facts, prices):
        return None
    limits = [fact[2] if price > 0 else fact[1] for fact, price in zip(facts.listed(), prices)]
    if None in limits or not covered(facts, question, prices):
        return None
    return sum([price * limit for price, limit in zip(prices, limits)])


def lower(facts, question, prices):
    """The number that prices show from below, or None: what they show from above with all signs turned."""
    check_question(facts.left, facts.right, question)
    if not is_prices(facts, prices):
        return None
    number = upper(facts, -question, tuple([-price for price in prices]))
    return None if number is None else -number


def has_free_cell(facts, question, value):
    """Whether any value is a cell with a weight above 0 and no fact with a high over it."""
    if not is_row(facts.left, facts.right, value):
        return False
    return question.weight(value[0], value[1]) > 0 and not has_high(facts.listed(), value[0], value[1])


def is_greatest(facts, question, value):
    """Whether any value is a tuple that greatest may return."""
    check_question(facts.left, facts.right, question)
    if not isinstance(value, tuple) or len(value) != 3:
        return False
    number, table, shown = value
    if table not in facts:
        return False
    if number is None:
        return has_free_cell(facts, question, shown)
    return is_whole(number) and question(table) == number and upper(facts, question, shown) == number


def is_least(facts, question, value):
    """Whether any value is a tuple that least may return."""
    check_question(facts.left, facts.right, question)
    if not isinstance(value, tuple) or len(value) != 3:
        return False
    number, table, shown = value
    if number is None:
        return is_greatest(facts, -question, value)
    if not is_whole(number) or not is_prices(facts, shown):
        return False
    return is_greatest(facts, -question, (-number, table, tuple([-price for price in shown])))
