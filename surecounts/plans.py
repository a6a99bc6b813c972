"""Plans: how the members of a chain or a star are joined two by two, and what they need in the worst case."""

from itertools import combinations

from surecounts.chains import Chain
from surecounts.checks import is_ascending, is_count, is_whole
from surecounts.contradictions import check_fitting
from surecounts.ends import fitting, greatest
from surecounts.errors import InvalidColumn, InvalidPlan


def chain_plans(start, stop):
    """The list of the plans of an interval of a chain."""
    if stop - start == 1:
        return [start]
    return [
        (first, second)
        for cut in range(start + 1, stop)
        for first in chain_plans(start, cut)
        for second in chain_plans(cut, stop)
    ]


def first_halves(members):
    """The list of the sets that can stand first when a list of members is parted: those with its least member."""
    rest = members[1:]
    return [[members[0], *more] for many in range(len(rest)) for more in combinations(rest, many)]


def star_plans(members):
    """The list of the plans of a list of members of a star."""
    if len(members) == 1:
        return [members[0]]
    found = []
    for half in first_halves(members):
        others = [member for member in members if member not in half]
        found.extend([(first, second) for first in star_plans(half) for second in star_plans(others)])
    return found


def all_plans(joined):
    """The list of the plans of a chain or a star, each once."""
    if isinstance(joined, Chain):
        return chain_plans(0, len(joined))
    return star_plans(list(range(len(joined))))


def plans(joined):
    """All plans of a chain or a star, each once."""
    for plan in all_plans(joined):
        yield plan


def has_plan_form(value):
    """Whether any value is an integer from 0, or a tuple of two of this form."""
    if not isinstance(value, tuple):
        return is_count(value)
    return len(value) == 2 and has_plan_form(value[0]) and has_plan_form(value[1])


def members_of(plan):
    """The list of the members of a plan, as they stand there."""
    if not isinstance(plan, tuple):
        return [plan]
    return members_of(plan[0]) + members_of(plan[1])


def results_of(plan):
    """The list of the results of a plan that has been looked at."""
    if not isinstance(plan, tuple):
        return []
    return results_of(plan[0]) + results_of(plan[1]) + [tuple(sorted(members_of(plan)))]


def results(plan):
    """The list of the results of a plan, ascending tuples, the whole one last."""
    if not has_plan_form(plan) or len(set(members_of(plan))) < len(members_of(plan)):
        raise InvalidPlan(plan)
    return results_of(plan)


def is_plan(joined, value):
    """Whether any value is a plan of a chain or a star."""
    return has_plan_form(value) and value in all_plans(joined)


def check_plan(joined, value):
    """Raises InvalidPlan with any value that is no plan of a chain or a star."""
    if not is_plan(joined, value):
        raise InvalidPlan(value)


def check_joined(joined):
    """Raises Contradictory for a chain whose facts contradict each other; there are heights for every star."""
    if isinstance(joined, Chain):
        check_fitting(joined.facts)


def interval_of(result):
    """The ends of the interval of a chain whose members a result has."""
    return (result[0], result[-1] + 1)


def chain_reached(chain, result):
    """The greatest number of answers of a result, or None, and a table that fits and has it."""
    start, stop = interval_of(result)
    if start <= chain.kept < stop:
        return greatest(chain.facts, chain.question(start, stop))[:2]
    return (chain.whole(start, stop), fitting(chain.facts))


def star_reached(star, result):
    """The greatest number of answers of a result, and heights of all kept columns that fit and have it."""
    number, columns = star.greatest(result)
    given = ()
    used = 0
    for member in range(len(star)):
        # A whole column has no heights; a kept one that is not in the result may have any that fit.
        alone = star.greatest((member,))[1]
        if member in result:
            given += columns[used:used + len(alone)]
            used += len(alone)
        else:
            given += alone
    return (number, given)


def reached(joined, result):
    """The greatest number of answers of a result, or None, and what has it: a table or heights of all kept columns."""
    return chain_reached(joined, result) if isinstance(joined, Chain) else star_reached(joined, result)


def all_reached(joined):
    """What is reached by each result of each plan, each looked for once."""
    found = {}
    for plan in all_plans(joined):
        for result in results_of(plan):
            if result not in found:
                found[result] = reached(joined, result)
    return found


def worst_of(plan, found):
    """The worst need of a plan and the first result that has it, by what its results reach."""
    told = results_of(plan)
    endless = [result for result in told if found[result][0] is None]
    if len(endless) > 0:
        return (None, endless[0])
    number = max([found[result][0] for result in told])
    return (number, [result for result in told if found[result][0] == number][0])


def worst(joined, plan):
    """The worst need of a plan, and the first result that has it."""
    check_plan(joined, plan)
    check_joined(joined)
    return worst_of(plan, {result: reached(joined, result) for result in results_of(plan)})


def answers_of_result(joined, result, given):
    """The number of answers of a result with a table, or with heights of all kept columns."""
    if isinstance(joined, Chain):
        start, stop = interval_of(result)
        return joined.answers(start, stop, given)
    return joined.answers(result, given)


def need(joined, plan, given):
    """The need of a plan for a table, whether it fits or not, or for heights of all kept columns."""
    check_plan(joined, plan)
    return max([answers_of_result(joined, result, given) for result in results_of(plan)])


def best(joined):
    """A plan with the least worst need, and this need."""
    check_joined(joined)
    found = all_reached(joined)
    told = [(plan, worst_of(plan, found)[0]) for plan in all_plans(joined)]
    least = min([number for _, number in told if number is not None], default=None)
    return [row for row in told if row[1] == least][0]


def report(joined):
    """For each plan the tuple (plan, need, result, given): its worst need and what makes it need so much."""
    check_joined(joined)
    found = all_reached(joined)
    rows = []
    for plan in all_plans(joined):
        number, result = worst_of(plan, found)
        rows.append((plan, number, result, None if number is None else found[result][1]))
    return rows


def has_answers(joined, result, given, number):
    """Whether any value is a table, or heights of all kept columns, that fits and for which a result has so many."""
    if isinstance(joined, Chain):
        return given in joined.facts and answers_of_result(joined, result, given) == number
    try:
        return answers_of_result(joined, result, given) == number
    except InvalidColumn:
        return False


def is_report_row(joined, known, found, value):
    """Whether any value is a row of a report, by the list of all plans and what their results reach."""
    if not isinstance(value, tuple) or len(value) != 4:
        return False
    plan, number, result, given = value
    if not has_plan_form(plan) or plan not in known:
        return False
    expected = worst_of(plan, found)[0]
    if not is_ascending(len(joined), result) or result not in results_of(plan) or found[result][0] != expected:
        return False
    if expected is None:
        return number is None and given is None
    return is_whole(number) and number == expected and has_answers(joined, result, given, number)


def is_report(joined, value):
    """Whether any value is a list that report may return, in any order."""
    check_joined(joined)
    known = all_plans(joined)
    if not isinstance(value, list) or len(value) != len(known):
        return False
    found = all_reached(joined)
    if not all([is_report_row(joined, known, found, row) for row in value]):
        return False
    told = [row[0] for row in value]
    return all([plan in told for plan in known])
