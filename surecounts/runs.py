"""Runs: the sizes of the results of a plan over a table, each beside the ends that the facts allow."""

from surecounts.contradictions import check_fitting
from surecounts.ends import ends
from surecounts.facts import rows_in
from surecounts.plans import check_plan, interval_of, results
from surecounts.tables import check_table


def ends_of(chain, result):
    """The ends of the number of answers of a result: the number itself twice, without the kept table."""
    start, stop = interval_of(result)
    if start <= chain.kept < stop:
        return ends(chain.facts, chain.question(start, stop))
    number = chain.whole(start, stop)
    return (number, number)


def walk(chain, plan, table):
    """For each result of a plan, in order, the tuple (result, size, least, greatest)."""
    check_plan(chain, plan)
    check_table(chain.facts.left, chain.facts.right, table)
    check_fitting(chain.facts)
    for result in results(plan):
        start, stop = interval_of(result)
        yield (result, chain.answers(start, stop, table), *ends_of(chain, result))


def surprise(chain, plan, table):
    """The first tuple of a walk whose size is not between the ends, or None."""
    for step in walk(chain, plan, table):
        _, size, low, high = step
        # There is always a least number, as no weight of these questions is below 0.
        if size < low or (high is not None and size > high):
            return step
    return None


def wrong(chain, table):
    """The list of the tuples (index, fact, rows) of the facts that a table breaks, with the rows there."""
    facts = chain.facts
    return [(index, facts.fact(index), rows_in(table, facts.fact(index)[0])) for index in facts(table)]
