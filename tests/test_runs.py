"""Points 3 (h), 11, 12 and stage 14: runs of plans over tables, and what they show of the facts."""

import itertools

from surecounts.chains import Chain
from surecounts.ends import ends
from surecounts.errors import Contradictory, InvalidPlan, InvalidTable
from surecounts.facts import Facts
from surecounts.plans import plans, results
from surecounts.runs import surprise, walk, wrong
from surecounts.tables import Table
from tests.cases import LONG, ODD, Case
from tests.samples import any_table, dice, rows, tables, true, true_facts

SQUARE = Table(((1, 2), (0, 3)))
MIDDLE = Facts(2, 2, [(("all",), 4, 4), (("left", (0,)), 0, 3), (("cell", 0, 1), 0, 0)])
EXAMPLE = Chain((Table(((5, 0), (5, 0))),), MIDDLE, (Table(((0,), (1,))),))
CLASH = Chain((SQUARE,), Facts(2, 2, [(("cell", 0, 0), 0, 9), (("all",), 0, 1), (("left", (1,)), 2, 3)]), (SQUARE,))


def any_chain(given, many, most):
    """A chain whose kept table has two values in each column, perhaps without a high over some cells."""
    kept = given.randrange(many)
    sizes = [given.randint(1, 3) for _ in range(many + 1)]
    sizes[kept] = sizes[kept + 1] = 2
    whole = [any_table(given, left, right, 3) for left, right in zip(sizes, sizes[1:])]
    return Chain(tuple(whole[:kept]), true_facts(given, 2, 2, given.randint(0, 4), most), tuple(whole[kept + 1:]))


def ways(joined):
    """The ways to choose one row of each table such that neighbors fit, counted one by one."""
    chosen = itertools.product(*[list(table.each()) for table in joined])
    return sum(all(one[1] == other[0] for one, other in zip(way, way[1:])) for way in chosen)


def is_between(step):
    return (step[2] is None or step[2] <= step[1]) and (step[3] is None or step[1] <= step[3])


class Runs(Case):

    def test_example(self):
        table = Table(((3, 0), (0, 1)))
        self.same(list(walk(EXAMPLE, (0, (1, 2)), table)), [((1, 2), 1, 0, 4), ((0, 1, 2), 0, 0, 0)])
        self.same(list(walk(table=table, plan=(0, (1, 2)), chain=EXAMPLE)),
                  [((1, 2), 1, 0, 4), ((0, 1, 2), 0, 0, 0)])
        self.same(surprise(table=table, plan=(0, (1, 2)), chain=EXAMPLE), None)
        self.same(wrong(table=table, chain=EXAMPLE), [])

    def test_sizes_and_ends(self):
        given = dice(141)
        for at in range(24):
            chain = any_chain(given, given.randint(2, 4), 2)
            parts = list(chain._parts)
            for table in [any_table(given, 2, 2, 2) for _ in range(3)]:
                parts[chain.kept] = table
                for plan in plans(chain):
                    told = list(walk(chain, plan, table))
                    self.same([step[0] for step in told], results(plan))
                    for result, size, low, high in told:
                        start, stop = result[0], result[-1] + 1
                        if at < 12 and stop - start < 4:
                            self.same(size, ways(parts[start:stop]))
                        self.same(size, chain.answers(start, stop, table))
                        if start <= chain.kept < stop:
                            self.same((low, high), ends(chain.facts, chain.question(start, stop)))
                        else:
                            self.same((low, size, high), (chain.whole(start, stop),) * 3)

    def test_a_table_that_fits_has_its_sizes_between_the_ends(self):
        given = dice(142)
        surprises = 0
        for _ in range(20):
            chain = any_chain(given, given.randint(2, 4), 2)
            for table in given.sample(tables(2, 2, 4), 60):
                for plan in plans(chain):
                    told = list(walk(chain, plan, table))
                    out = [step for step in told if not is_between(step)]
                    self.same(surprise(chain, plan, table), out[0] if out else None)
                    if table in chain.facts:
                        self.same(out, [])
                        self.same(wrong(chain, table), [])
                    if out:
                        surprises += 1
                        self.assertTrue(wrong(chain, table))
        self.assertGreater(surprises, 100)

    def test_the_first_surprise(self):
        middle = Facts(2, 2, [(("cell", 1, 1), 1, 1), (("all",), 0, 5)])
        chain = Chain((SQUARE,), middle, (SQUARE,))
        plan = (0, (1, 2))
        table = Table(((0, 0), (0, 7)))
        self.same(list(walk(chain, plan, table)), [((1, 2), 21, 3, 15), ((0, 1, 2), 105, 15, 75)])
        self.same(surprise(chain, plan, table), ((1, 2), 21, 3, 15))
        self.same(surprise(chain, plan, Table(((0, 0), (0, 0)))), ((1, 2), 0, 3, 15))
        self.same(surprise(chain, plan, Table(((0, 0), (0, 5)))), None)
        self.same(wrong(chain, Table(((0, 0), (0, 5)))), [(0, (("cell", 1, 1), 1, 1), 5)])
        # Only the second result tells what is wrong.
        chain = Chain((Table(((1, 0), (9, 0))),), middle, (Table(((1,), (1,))),))
        self.same(surprise(chain, plan, Table(((6, 0), (0, 1)))), ((1, 2), 7, 1, 5))
        chain = Chain((Table(((1, 0), (9, 0))),), Facts(2, 2, [(("all",), 7, 7), (("left", (0,)), 0, 5)]),
                      (Table(((1,), (1,))),))
        self.same(surprise(chain, plan, Table(((6, 0), (0, 1)))), ((0, 1, 2), 60, 0, 50))

    def test_ends_that_are_no_limit(self):
        chain = Chain((SQUARE,), Facts(2, 2, [(("left", (0,)), 1, None)]), (SQUARE,))
        plan = ((0, 1), 2)
        self.same(list(walk(chain, plan, Table(((1, 0), (0, 0))))), [((0, 1), 1, 1, None), ((0, 1, 2), 3, 3, None)])
        self.same(surprise(chain, plan, Table(((LONG, 0), (0, LONG)))), None)
        self.same(surprise(chain, plan, Table(((0, 0), (0, 0)))), ((0, 1), 0, 1, None))

    def test_the_kept_table_at_an_end(self):
        facts = Facts(1, 1, [(("all",), 1, 2)])
        table = Table(((3,),))
        chain = Chain((), facts, (table, table))
        self.same(list(walk(chain, (0, (1, 2)), table)), [((1, 2), 9, 9, 9), ((0, 1, 2), 27, 9, 18)])
        self.same(surprise(chain, (0, (1, 2)), table), ((0, 1, 2), 27, 9, 18))
        self.same(wrong(chain, table), [(0, (("all",), 1, 2), 3)])
        chain = Chain((table, table), facts, ())
        self.same(list(walk(chain, ((0, 1), 2), table)), [((0, 1), 9, 9, 9), ((0, 1, 2), 27, 9, 18)])

    def test_wrong_facts(self):
        given = dice(143)
        for _ in range(40):
            chain = any_chain(given, 2, 2)
            for table in [any_table(given, 2, 2, 3) for _ in range(5)]:
                expected = [(index, fact, rows(table, fact[0])) for index, fact in enumerate(chain.facts.listed())
                            if not true(fact, table)]
                self.same(wrong(chain, table), expected)
        self.same(wrong(EXAMPLE, Table(((LONG, 1), (0, 0)))), [
            (0, (("all",), 4, 4), LONG + 1), (1, (("left", (0,)), 0, 3), LONG + 1), (2, (("cell", 0, 1), 0, 0), 1)])
        self.changed_freely(lambda: wrong(EXAMPLE, Table(((9, 9), (0, 0)))))
        self.same(wrong(CLASH, Table(((1, 1), (0, 0)))),
                  [(1, (("all",), 0, 1), 2), (2, (("left", (1,)), 2, 3), 0)])

    def test_six_tables(self):
        given = dice(144)
        facts = true_facts(given, 8, 8, 30, 10 ** 50)
        whole = [any_table(given, 8, 8, 10 ** 9) for _ in range(5)]
        chain = Chain(tuple(whole[:4]), facts, tuple(whole[4:]))
        table = Table(((0,) * 8,) * 8)
        for plan in list(plans(chain))[::7]:
            told = list(walk(chain, plan, table))
            self.same(len(told), 5)
            self.same(surprise(chain, plan, table), next((step for step in told if not is_between(step)), None))

    def test_a_generator(self):
        told = walk(EXAMPLE, (0, (1, 2)), Table(((3, 0), (0, 1))))
        self.assertIs(iter(told), told)
        self.same(next(told), ((1, 2), 1, 0, 4))


class Wrong(Case):

    def walked(self, *given):
        return list(walk(*given))

    def test_plans(self):
        for value in [*ODD, 0, (0, 1), (0, 1, 2), [0, (1, 2)], (0, [1, 2]), ((1, 2), 0), (0, (1, True)), (0, (1, 1))]:
            for function in (self.walked, surprise):
                self.fails(InvalidPlan, value, function, EXAMPLE, value, None)
                self.fails(InvalidPlan, value, function, CLASH, value, SQUARE)

    def test_tables(self):
        for value in [*ODD, 0, MIDDLE, ((1, 0), (0, 1)), Table(((1, 1, 1), (1, 1, 1))), Table(((1,),))]:
            for chain in (EXAMPLE, CLASH):
                self.fails(InvalidTable, value, self.walked, chain, (0, (1, 2)), value)
                self.fails(InvalidTable, value, surprise, chain, ((0, 1), 2), value)
                self.fails(InvalidTable, value, wrong, chain, value)

    def test_facts_that_contradict_each_other(self):
        for plan in plans(CLASH):
            for function in (self.walked, surprise):
                self.fails(Contradictory, (1, 2), function, CLASH, plan, SQUARE)
        # Even the results without the kept table are not told then.
        chain = Chain((SQUARE, SQUARE), CLASH.facts, ())
        with self.assertRaises(Contradictory):
            next(walk(chain, ((0, 1), 2), SQUARE))
