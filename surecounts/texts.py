"""How facts and tables are written and read."""

from surecounts.checks import MOST_VALUES, is_size
from surecounts.errors import InvalidText
from surecounts.facts import MOST_FACTS, Facts, first_crossing, is_fact
from surecounts.tables import Table
from surecounts.words import number_words, read_number, read_numbers, read_where, write_where


def write_fact(fact):
    """The row of a fact."""
    where, low, high = fact
    end = "-" if high is None else str(high)
    return f"{write_where(where)} {low} {end}"


def write_facts(facts):
    """The text of facts."""
    rows = [f"size {facts.left} {facts.right}"]
    rows.extend([write_fact(fact) for fact in facts.listed()])
    return "\n".join(rows)


def write_table(table):
    """The text of a table."""
    return "\n".join([" ".join(number_words(line)) for line in table.counts])


def rows_of(text):
    """The list of the rows of any value; raises InvalidText if it is not a text."""
    if not isinstance(text, str):
        raise InvalidText(None)
    return text.split("\n")


def read_sizes(row):
    """The two sizes that a row tells, or None."""
    words = row.split(" ")
    if len(words) != 3 or words[0] != "size":
        return None
    sizes = read_numbers(words[1:])
    if sizes is None or not all([is_size(size) for size in sizes]):
        return None
    return sizes


def read_fact(left, right, row):
    """The fact that a row tells, or None."""
    words = row.split(" ")
    if len(words) < 3:
        return None
    where = read_where(words[:-2])
    low = read_number(words[-2])
    high = read_number(words[-1])
    # No high is written by "-" alone; another word that is no integer must not be taken for it.
    if high is None and words[-1] != "-":
        return None
    fact = (where, low, high)
    return fact if is_fact(left, right, fact) else None


def read_facts(text):
    """The facts that a text tells."""
    rows = rows_of(text)
    sizes = read_sizes(rows[0])
    if sizes is None:
        raise InvalidText(0)
    left, right = sizes
    facts = []
    for index, row in enumerate(rows[1:], start=1):
        fact = read_fact(left, right, row)
        if fact is None or index > MOST_FACTS:
            raise InvalidText(index)
        facts.append(fact)
    pair = first_crossing(facts)
    if pair is not None:
        raise InvalidText(pair[1] + 1)
    return Facts(left, right, facts)


def read_table(text):
    """The table that a text tells."""
    counts = []
    for index, row in enumerate(rows_of(text)):
        line = read_numbers(row.split(" "))
        if index >= MOST_VALUES or line is None or len(line) > MOST_VALUES:
            raise InvalidText(index)
        if index > 0 and len(line) != len(counts[0]):
            raise InvalidText(index)
        counts.append(line)
    return Table(tuple(counts))
