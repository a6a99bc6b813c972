"""Facts, questions, spreads and all that fits them, found by going through everything: slow, but plain."""

import itertools
import random

from surecounts.errors import Contradictory
from surecounts.facts import Facts
from surecounts.questions import Question
from surecounts.spreads import Spread
from surecounts.tables import Table


def dice(seed):
    """Numbers that look random and are the same in every run."""
    return random.Random(seed)


def any_table(given, left, right, most):
    return Table(tuple(tuple(given.randint(0, most) for _ in range(right)) for _ in range(left)))


def tables(left, right, most):
    """The list of all tables with two sizes and at most so many rows in a cell."""
    return [Table(tuple(counts[right * a:right * a + right] for a in range(left)))
            for counts in itertools.product(range(most + 1), repeat=left * right)]


def inside(where, a, b):
    """Whether a cell is one of a where."""
    if where[0] == "cell":
        return where[1:] == (a, b)
    return where[0] == "all" or (a if where[0] == "left" else b) in where[1]


def rows(table, where):
    return sum(table.count(a, b) for a in range(table.left) for b in range(table.right) if inside(where, a, b))


def true(fact, table):
    return fact[1] <= rows(table, fact[0]) and (fact[2] is None or rows(table, fact[0]) <= fact[2])


def nested(given, size):
    """Some sets of the values of a column, any two of them nested or apart."""
    found = []
    waiting = [list(range(size))]
    while waiting:
        values = waiting.pop()
        found.append(tuple(sorted(values)))
        if len(values) > 1:
            given.shuffle(values)
            cut = given.randint(1, len(values) - 1)
            waiting.extend([values[:cut], values[cut:]])
    return found


def wheres(given, left, right, many):
    """So many wheres, of all kinds, that may stand together."""
    lefts = nested(given, left)
    rights = nested(given, right)
    found = []
    for _ in range(many):
        found.append(given.choice([("all",), ("left", given.choice(lefts)), ("left", given.choice(lefts)),
                                   ("right", given.choice(rights)), ("right", given.choice(rights)),
                                   ("cell", given.randrange(left), given.randrange(right))]))
    return found


def any_facts(given, left, right, many, most):
    """Facts with limits of any kind, which may contradict each other."""
    found = []
    for where in wheres(given, left, right, many):
        low = given.randint(0, most)
        found.append((where, low, given.choice([None, low, given.randint(low, most + 1), given.randint(low, most + 1)])))
    return Facts(left, right, found)


def true_facts(given, left, right, many, most):
    """Facts that are true of a table with up to so many rows in a cell."""
    counts = tuple(tuple(given.choice([0, given.randint(0, most)]) for _ in range(right)) for _ in range(left))
    found = []
    for where in wheres(given, left, right, many):
        number = rows(Table(counts), where)
        high = number + given.choice([0, 0, given.randint(0, most)])
        found.append((where, max(0, number - given.choice([0, given.randint(0, most)])),
                      given.choice([high, high, high, None])))
    return Facts(left, right, found)


def any_question(given, left, right, most):
    return Question(tuple(tuple(given.choice([0, given.randint(-most, most)]) for _ in range(right))
                          for _ in range(left)))


def sum_over(facts, prices, a, b):
    return sum(price for fact, price in zip(facts.listed(), prices) if inside(fact[0], a, b))


def shown_above(facts, question, prices):
    """The number that prices show from above, word by word as the document has it, or None."""
    number = 0
    for (_, low, high), price in zip(facts.listed(), prices, strict=True):
        if price > 0 and high is None:
            return None
        if price != 0:
            number += price * (high if price > 0 else low)
    for a in range(facts.left):
        for b in range(facts.right):
            if sum_over(facts, prices, a, b) < question.weight(a, b):
                return None
    return number


def shown_below(facts, question, prices):
    """The number that prices show from below, word by word as the document has it, or None."""
    number = 0
    for (_, low, high), price in zip(facts.listed(), prices, strict=True):
        if price < 0 and high is None:
            return None
        if price != 0:
            number += price * (high if price < 0 else low)
    for a in range(facts.left):
        for b in range(facts.right):
            if sum_over(facts, prices, a, b) > question.weight(a, b):
                return None
    return number


def fits(spread, heights):
    """Whether heights fit, word by word as the document has it, for a tuple as a spread is made of."""
    size, (low, high), (fewest, greatest), most = spread
    return (len(heights) == size and low <= sum(heights) <= high
            and fewest <= sum(height > 0 for height in heights) <= greatest
            and (most is None or all(height <= most for height in heights)))


def all_heights(spread):
    """The list of all heights that fit, for a tuple as a spread is made of."""
    return [heights for heights in itertools.product(range(spread[1][1] + 1), repeat=spread[0])
            if fits(spread, heights)]


def told(spread):
    """What a spread is made of."""
    return (spread.size, spread.rows, spread.different, spread.most)


def any_limits(given, most):
    low = given.randint(0, most)
    return (low, given.randint(low, most))


def any_told(given, size, most):
    """What a spread may be made of, if there are heights for it or not."""
    return (size, any_limits(given, most), any_limits(given, size + 1), given.choice([None, None, 1, 2, 3, most + 1]))


def any_spread(given, size, most):
    """A spread for which there are heights."""
    while True:
        try:
            return Spread(*any_told(given, size, most))
        except Contradictory:
            continue


def sum_of_products(*columns):
    total = 0
    for heights in zip(*columns, strict=True):
        product = 1
        for height in heights:
            product *= height
        total += product
    return total


def column_heights(column):
    """All heights of all values that fit the spreads of a column."""
    return [sum(parts, ()) for parts in itertools.product(*[all_heights(told(spread)) for spread in column])]
