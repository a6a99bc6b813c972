"""Points 3 (e), 12 and stage 11: plans of chains and stars, their needs, and reports of them."""

import itertools

from surecounts.chains import Chain
from surecounts.ends import fitting, greatest
from surecounts.errors import Contradictory, InvalidColumn, InvalidPlan, InvalidTable
from surecounts.facts import Facts
from surecounts.plans import best, is_plan, is_report, need, plans, report, results, worst
from surecounts.spreads import Spread
from surecounts.stars import Star
from surecounts.tables import Table
from tests.cases import LONG, ODD, Agreeing, Case
from tests.samples import any_spread, any_table, column_heights, dice, tables, true_facts

SQUARE = Table(((1, 2), (0, 3)))
MIDDLE = Facts(2, 2, [(("all",), 4, 4), (("left", (0,)), 0, 3), (("cell", 0, 1), 0, 0)])
EXAMPLE = Chain((Table(((5, 0), (5, 0))),), MIDDLE, (Table(((0,), (1,))),))
ENDLESS = Chain((SQUARE,), Facts(2, 2, [(("left", (0,)), 1, 2)]), (Table(((0,), (1,))),))
CLASH = Chain((SQUARE,), Facts(2, 2, [(("cell", 0, 0), 0, 9), (("all",), 0, 1), (("left", (1,)), 2, 3)]), (SQUARE,))
ONE = Spread(4, (10, 10), (3, 3))
OTHER = Spread(4, (6, 6), (2, 2))
STAR = Star(((3, 0, 1, 1),), ((ONE,), (OTHER,)))


def any_chain(given, many):
    """A chain with little facts, all of whose cells have a high over them."""
    sizes = [given.randint(1, 3) for _ in range(many + 1)]
    kept = given.randrange(many)
    sizes[kept], sizes[kept + 1] = given.randint(1, 2), given.randint(1, 2)
    whole = [any_table(given, left, right, 3) for left, right in zip(sizes, sizes[1:])]
    facts = true_facts(given, sizes[kept], sizes[kept + 1], 3, 2).with_fact((("all",), 0, 9))
    return Chain(tuple(whole[:kept]), facts, tuple(whole[kept + 1:]))


def any_star(given, whole, kept):
    sizes = given.choice([(1,), (2,), (1, 1)])
    keys = tuple(tuple(given.randint(0, 3) for _ in range(sum(sizes))) for _ in range(whole))
    return Star(keys, tuple(tuple(any_spread(given, size, 3) for size in sizes) for _ in range(kept)))


def grown(plan, member):
    """All plans that come of a plan when one more member is joined with one of its parts, in both orders."""
    found = [(plan, member), (member, plan)]
    if isinstance(plan, tuple):
        found.extend((part, plan[1]) for part in grown(plan[0], member))
        found.extend((plan[0], part) for part in grown(plan[1], member))
    return found


def all_trees(many):
    """All plans of so many members in any order, found by joining one member after the other."""
    found = [0]
    for member in range(1, many):
        found = [more for plan in found for more in grown(plan, member)]
    return found


def leaves(plan):
    return leaves(plan[0]) + leaves(plan[1]) if isinstance(plan, tuple) else [plan]


def halves(plan):
    """All tuples within a plan, itself ahead."""
    return [plan, *halves(plan[0]), *halves(plan[1])] if isinstance(plan, tuple) else []


def is_plan_of_chain(plan):
    return leaves(plan) == sorted(leaves(plan))


def is_plan_of_star(plan):
    return all(min(leaves(first)) < min(leaves(second)) for first, second in halves(plan))


def given_of(joined):
    """All that fits a chain or a star: tables, or heights of the kept columns."""
    if isinstance(joined, Chain):
        return [table for table in tables(joined.facts.left, joined.facts.right, 9) if table in joined.facts]
    return list(itertools.product(*[column_heights(column) for column in joined._columns]))


def answers(joined, result, given):
    if isinstance(joined, Chain):
        return joined.answers(result[0], result[-1] + 1, given)
    return joined.answers(result, given)


def samples(seed):
    given = dice(seed)
    for many in (2, 2, 3, 3, 4):
        yield any_chain(given, many)
    for whole, kept in ((1, 1), (1, 2), (2, 1), (2, 2), (1, 3)):
        yield any_star(given, whole, kept)


def star_of(many):
    return Star(((1,),), ((Spread(1, (0, 1), (0, 1)),),) * (many - 1))


def chain_of(many):
    return Chain((SQUARE,), MIDDLE, (SQUARE,) * (many - 2))


class Plans(Case):

    def test_example(self):
        self.same((results(((0, 1), 2)), worst(EXAMPLE, ((0, 1), 2)), best(EXAMPLE)),
                  ([(0, 1), (0, 1, 2)], (30, (0, 1)), ((0, (1, 2)), 4)))
        self.same((results(plan=((0, 1), 2)), worst(plan=((0, 1), 2), joined=EXAMPLE), best(joined=EXAMPLE)),
                  ([(0, 1), (0, 1, 2)], (30, (0, 1)), ((0, (1, 2)), 4)))
        self.same(list(plans(joined=EXAMPLE)), list(plans(EXAMPLE)))
        self.same(is_plan(value=(0, (1, 2)), joined=EXAMPLE), True)
        self.same(need(given=Table(((1, 0), (0, 1))), plan=((0, 1), 2), joined=EXAMPLE), 10)
        self.same(is_report(value=report(joined=EXAMPLE), joined=EXAMPLE), True)

    def test_all_plans_each_once(self):
        for many in range(2, 7):
            expected = [plan for plan in set(all_trees(many)) if is_plan_of_chain(plan)]
            self.same(sorted(map(repr, plans(chain_of(many)))), sorted(map(repr, expected)))
            self.same(len(expected), {2: 1, 3: 2, 4: 5, 5: 14, 6: 42}[many])
        for many in range(2, 6):
            expected = [plan for plan in set(all_trees(many)) if is_plan_of_star(plan)]
            self.same(sorted(map(repr, plans(star_of(many)))), sorted(map(repr, expected)))
            self.same(len(expected), {2: 1, 3: 3, 4: 15, 5: 105}[many])
        self.same(list(plans(chain_of(2))), [(0, 1)])

    def test_plans_are_yielded_one_by_one_and_alike(self):
        for joined in (chain_of(6), star_of(5)):
            told = plans(joined)
            self.assertIs(iter(told), told)
            first = next(told)
            self.same([first, *told], list(plans(joined)))

    def test_is_plan(self):
        for many in range(2, 5):
            for tree in all_trees(many):
                for joined in (chain_of(2), chain_of(3), chain_of(4)):
                    self.same(is_plan(joined, tree), many == len(joined) and is_plan_of_chain(tree))
                for joined in (star_of(2), star_of(3), star_of(4)):
                    self.same(is_plan(joined, tree), many == len(joined) and is_plan_of_star(tree))

    def test_what_is_no_plan(self):
        bad = [*ODD, 0, 1, -1, (0,), (0, 1, 2), [0, 1], (0, 2), (0, -1), (0, True), (False, 1), (0, 0), ((0, 1),),
               (0, (1,)), (0, [1, 2]), (0, (1, True)), ((0, 1), 2.0), (0, 1.0), ((0, 1), (1, 2)), (0, (1, 2), 3),
               (0, (1, Agreeing())), (Agreeing(), Agreeing()), (0, LONG), ((0, 1), None), "01", {0: 1}]
        nested = 0
        for _ in range(90):
            nested = (nested, 1)
        for joined in (chain_of(2), chain_of(3), star_of(2), star_of(3)):
            for value in [*bad, nested]:
                self.same(is_plan(joined, value), False)
                self.fails(InvalidPlan, value, worst, joined, value)
                self.fails(InvalidPlan, value, need, joined, value, None)
        self.same(is_plan(star_of(3), ((0, 2), 1)), True)
        self.same(is_plan(chain_of(3), ((0, 2), 1)), False)
        self.same(is_plan(star_of(3), (1, (0, 2))), False)

    def test_results(self):
        self.same(results((0, (1, 2))), [(1, 2), (0, 1, 2)])
        self.same(results((0, 1)), [(0, 1)])
        self.same(results(0), [])
        self.same(results((((0, 4), 2), (1, 3))), [(0, 4), (0, 2, 4), (1, 3), (0, 1, 2, 3, 4)])
        self.same(results(((0, 1), (2, (3, (4, 5))))), [(0, 1), (4, 5), (3, 4, 5), (2, 3, 4, 5), (0, 1, 2, 3, 4, 5)])
        for joined in (chain_of(5), star_of(5)):
            for plan in plans(joined):
                expected = sorted(tuple(sorted(leaves(part))) for part in halves(plan))
                self.same(sorted(results(plan)), expected)
                self.same(results(plan)[-1], (0, 1, 2, 3, 4))
                self.same(results(plan), results(plan[0]) + results(plan[1]) + [(0, 1, 2, 3, 4)])
        self.changed_freely(lambda: results(((0, 1), 2)))

    def test_results_of_no_plan(self):
        for value in [None, True, "0", (), (0,), (0, 1, 2), [0, 1], (0, True), (0, 0), (0, [1, 2]), -1, (0, (1, 0))]:
            self.fails(InvalidPlan, value, results, value)


class Needs(Case):

    def test_all_that_fits(self):
        for joined in samples(111):
            fitted = given_of(joined)
            self.assertTrue(fitted)
            needs = {}
            for plan in plans(joined):
                numbers = [max(answers(joined, result, given) for given in fitted) for result in results(plan)]
                needs[plan] = max(numbers)
                expected = (max(numbers), results(plan)[numbers.index(max(numbers))])
                self.same(worst(joined, plan), expected)
                for given in fitted:
                    number = max(answers(joined, result, given) for result in results(plan))
                    self.same(need(joined, plan, given), number)
                    self.assertLessEqual(number, needs[plan])
            plan, number = best(joined)
            self.same((number, needs[plan]), (min(needs.values()),) * 2)
            self.same(best(joined), (plan, number))

    def test_report(self):
        for joined in samples(112):
            fitted = given_of(joined)
            rows = report(joined)
            self.same([row[0] for row in rows], list(plans(joined)))
            for plan, number, result, given in rows:
                self.same((number, number), (worst(joined, plan)[0], answers(joined, result, given)))
                self.assertIn(result, results(plan))
                self.assertTrue(given in fitted)
                self.same(need(joined, plan, given), number)
                self.assertGreaterEqual(number, best(joined)[1])
            self.same(is_report(joined, rows), True)
            self.same(is_report(joined, rows[::-1]), True)

    def test_a_table_that_does_not_fit(self):
        self.same(need(EXAMPLE, ((0, 1), 2), Table(((0, 100), (0, 0)))), 1000)
        self.same(need(EXAMPLE, (0, (1, 2)), Table(((0, 0), (0, 100)))), 100)
        self.same(need(EXAMPLE, (0, (1, 2)), Table(((0, 0), (0, 0)))), 0)
        self.same(need(CLASH, (0, (1, 2)), Table(((1, 0), (0, 0)))), 3)

    def test_without_a_greatest_number(self):
        self.same(worst(ENDLESS, ((0, 1), 2)), (None, (0, 1)))
        self.same(worst(ENDLESS, (0, (1, 2))), (None, (1, 2)))
        self.same(best(ENDLESS)[1], None)
        self.same(is_plan(ENDLESS, best(ENDLESS)[0]), True)
        self.same(report(ENDLESS), [((0, (1, 2)), None, (1, 2), None), (((0, 1), 2), None, (0, 1), None)])
        # The endless cells cannot be joined on to the right: only some results have no greatest number.
        facts = Facts(2, 2, [(("right", (0,)), 1, 2)])
        chain = Chain((SQUARE,), facts, (Table(((1, 1), (0, 0))),))
        self.same(worst(chain, ((0, 1), 2)), (None, (0, 1)))
        self.same(worst(chain, (0, (1, 2))), (20, (0, 1, 2)))
        self.same(best(chain), ((0, (1, 2)), 20))
        rows = report(chain)
        self.same([row[:3] for row in rows],
                  [((0, (1, 2)), 20, (0, 1, 2)), (((0, 1), 2), None, (0, 1))])
        self.same((is_report(chain, rows), is_report(chain, rows[::-1])), (True, True))
        for row in [(((0, 1), 2), None, (0, 1), fitting(facts)), (((0, 1), 2), None, (0, 1, 2), None),
                    (((0, 1), 2), 20, (0, 1, 2), rows[0][3]), (((0, 1), 2), None, (1, 2), None),
                    (((0, 1), 2), 0, (0, 1), None), (((0, 1), 2), False, (0, 1), None)]:
            self.same(is_report(chain, [rows[0], row]), False)

    def test_a_result_without_the_kept_table(self):
        chain = Chain((Table(((9, 9),)), Table(((9,), (9,)))), Facts(1, 1, [(("all",), 1, 1)]), ())
        self.same(worst(chain, ((0, 1), 2)), (162, (0, 1)))
        self.same(worst(chain, (0, (1, 2))), (162, (0, 1, 2)))
        self.same([row[2:] for row in report(chain)][1][0], (0, 1))
        self.same(report(chain)[1][3].counts, ((1,),))

    def test_the_first_result_of_the_first_half(self):
        table = Table(((1,),))
        chain = Chain((table, table), Facts(1, 1, [(("all",), 1, 1)]), (table,))
        self.same([worst(chain, plan)[1] for plan in plans(chain)],
                  [results(plan)[0] for plan in plans(chain)])
        other = chain.answers(0, 4, table)
        rows = [(plan, other, result, table) for plan in plans(chain) for result in results(plan)]
        for chosen in itertools.product(*[[row for row in rows if row[0] == plan] for plan in plans(chain)]):
            self.same(is_report(chain, list(chosen)), True)

    def test_six_tables_and_five_columns(self):
        given = dice(113)
        sizes = [8] * 7
        whole = [any_table(given, 8, 8, 10 ** 10) for _ in sizes[:5]]
        facts = true_facts(given, 8, 8, 38, 10 ** 57).with_fact((("all",), 0, 10 ** 59))
        chain = Chain(tuple(whole[:2]), facts, tuple(whole[2:]))
        rows = report(chain)
        self.same((len(rows), is_report(chain, rows)), (42, True))
        self.same(best(chain)[1], min(row[1] for row in rows))
        for plan, number, result, given_table in rows[:5]:
            numbers = [greatest(facts, chain.question(told[0], told[-1] + 1))[0] if told[0] <= 2 <= told[-1]
                       else chain.whole(told[0], told[-1] + 1) for told in results(plan)]
            self.same((number, result), (max(numbers), results(plan)[numbers.index(max(numbers))]))
            self.assertIn(given_table, facts)
        columns = tuple(tuple(any_spread(given, 16, LONG) for _ in range(4)) for _ in range(3))
        star = Star((tuple(range(64)), tuple(range(64, 128))), columns)
        rows = report(star)
        self.same((len(rows), is_report(star, rows)), (105, True))
        self.same(best(star)[1], min(row[1] for row in rows))

    def test_star_of_the_document(self):
        for plan in plans(STAR):
            self.same(worst(STAR, plan), (121, (0, 1, 2)))
        self.same(best(STAR)[1], 121)


class Reports(Case):

    def refused(self, joined, value):
        self.same(is_report(joined, value), False)

    def test_values_of_other_kinds(self):
        for joined in (EXAMPLE, STAR, ENDLESS):
            rows = report(joined)
            for value in [*ODD, 0, tuple(rows), rows[0], {0: rows}, iter(rows)]:
                self.refused(joined, value)
            for at in range(len(rows)):
                for value in [*ODD, list(rows[at]), rows[at][:3], (*rows[at], None)]:
                    self.refused(joined, [*rows[:at], value, *rows[at + 1:]])

    def test_one_row_left_out_or_doubled(self):
        for joined in (*samples(114), ENDLESS, EXAMPLE):
            rows = report(joined)
            for at in range(len(rows)):
                self.refused(joined, rows[:at] + rows[at + 1:])
                self.refused(joined, [*rows, rows[at]])
                if len(rows) > 1:
                    self.refused(joined, [*rows[:at], *rows[at + 1:], rows[at - 1]])
            self.refused(joined, rows + rows)
            self.refused(joined, [])

    def test_one_thing_changed(self):
        for joined in (*samples(115), EXAMPLE, STAR):
            rows = report(joined)
            for at, (plan, number, result, given) in enumerate(rows):
                others = [(bad, number, result, given) for bad in [*ODD, list(plan), plan[::-1], (plan,), 0, 1, (7, 8),
                                                                        ((0, 2), 1), (plan, 9), ((0, 9), (1, 2))]
                          if repr(bad) != repr(plan)]
                others.extend((plan, bad, result, given) for bad in [*ODD, number + 1, number - 1, str(number)])
                others.extend((plan, number, bad, given) for bad in [*ODD, list(result), result[:1], result[::-1]])
                others.extend((plan, number, result, bad) for bad in [*ODD, 0, SQUARE, [given], (given,)])
                for row in others:
                    self.refused(joined, [*rows[:at], row, *rows[at + 1:]])

    def test_a_number_that_is_a_bool(self):
        table = Table(((1,),))
        chain = Chain((table,), Facts(1, 1, [(("all",), 1, 1)]), ())
        self.same(is_report(chain, [((0, 1), 1, (0, 1), table)]), True)
        self.refused(chain, [((0, 1), True, (0, 1), table)])
        self.refused(chain, [((0, True), 1, (0, 1), table)])
        self.refused(chain, [((0, 1), 1, (0, True), table)])
        self.refused(chain, [((0, 1), 1, (False, 1), table)])
        star = Star(((1,),), ((Spread(1, (1, 1), (1, 1)),),))
        self.same(is_report(star, [((0, 1), 1, (0, 1), ((1,),))]), True)
        for bad in (((True,),), ([1],), [(1,)], ((1,), (1,)), (), ((1, 0),), ((1.0,),)):
            self.refused(star, [((0, 1), 1, (0, 1), bad)])

    def test_what_does_not_fit_or_has_less(self):
        plan = ((0, 1), 2)
        rows = report(EXAMPLE)
        self.same(rows[1][:3], (plan, 30, (0, 1)))
        self.same(is_report(EXAMPLE, [rows[0], (plan, 30, (0, 1), Table(((3, 0), (1, 0))))]), True)
        self.same(is_report(EXAMPLE, [rows[0], (plan, 30, (0, 1), Table(((3, 0), (0, 1))))]), True)
        for counts in (((3, 0), (0, 0)), ((2, 0), (2, 0)), ((4, 0), (0, 0)), ((2, 1), (1, 0)), ((3, 0, 0), (1, 0, 0))):
            self.refused(EXAMPLE, [rows[0], (plan, 30, (0, 1), Table(counts))])
        self.refused(EXAMPLE, [rows[0], (plan, 30, (0, 1, 2), rows[1][3])])
        # A lesser need, with a table that has it.
        self.same(EXAMPLE.answers(0, 2, Table(((1, 0), (3, 0)))), 10)
        self.refused(EXAMPLE, [rows[0], (plan, 10, (0, 1), Table(((1, 0), (3, 0))))])
        # What was given for one row does for another one only if it has as many answers there.
        self.refused(EXAMPLE, [rows[0], (plan, 4, (0, 1, 2), rows[0][3])])
        self.refused(EXAMPLE, [rows[0], (*rows[1][:3], rows[0][3])])

    def test_what_was_given_for_another_row(self):
        for joined in samples(116):
            rows = report(joined)
            for at, row in enumerate(rows):
                for other in rows:
                    expected = answers(joined, row[2], other[3]) == row[1]
                    self.same(is_report(joined, [*rows[:at], (*row[:3], other[3]), *rows[at + 1:]]), expected)

    def test_lists_are_new(self):
        self.changed_freely(lambda: report(STAR))


class Wrong(Case):

    def test_facts_that_contradict_each_other(self):
        for function in (best, report):
            self.fails(Contradictory, (1, 2), function, CLASH)
        for plan in plans(CLASH):
            self.fails(Contradictory, (1, 2), worst, CLASH, plan)
        self.fails(InvalidPlan, (0, 1), worst, CLASH, (0, 1))
        for value in [*ODD, [], [(0, (1, 2))], report(EXAMPLE)]:
            self.fails(Contradictory, (1, 2), is_report, CLASH, value)
        self.same([is_plan(CLASH, plan) for plan in plans(CLASH)], [True, True])

    def test_need_of_no_table(self):
        for value in [*ODD, 0, MIDDLE, Table(((1, 1, 1), (1, 1, 1))), ((1, 0), (0, 1))]:
            self.fails(InvalidTable, value, need, EXAMPLE, (0, (1, 2)), value)
            self.fails(InvalidTable, value, need, CLASH, (0, (1, 2)), value)
            self.fails(InvalidPlan, 1, need, EXAMPLE, 1, value)

    def test_need_of_no_heights(self):
        good, other = (8, 1, 0, 1), (1, 5, 0, 0)
        self.same(need(STAR, ((0, 1), 2), (good, other)), 25)
        for value in [*ODD, 0, [good, other], (good,), (good, other, other)]:
            self.fails(InvalidColumn, None, need, STAR, ((0, 1), 2), value)
            self.fails(InvalidPlan, (0, 1), need, STAR, (0, 1), value)
        self.fails(InvalidColumn, 0, need, STAR, ((0, 1), 2), ((8, 1, 1, 1), (1, 4, 0, 0)))
        self.fails(InvalidColumn, 1, need, STAR, ((0, 1), 2), (good, (1, 4, 0, 0)))
        self.fails(InvalidColumn, 0, need, STAR, ((0, 1), 2), (list(good), None))
