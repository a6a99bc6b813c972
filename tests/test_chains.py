"""Point 11 and stage 9: chains of whole tables with one kept table among them."""

import itertools

from surecounts.chains import Chain
from surecounts.ends import ends
from surecounts.errors import InvalidChain, InvalidMembers, InvalidTable
from surecounts.facts import Facts
from surecounts.questions import Question
from surecounts.tables import Table
from tests.cases import LONG, ODD, Agreeing, Case
from tests.samples import any_table, dice, tables, true_facts

SQUARE = Table(((1, 2), (0, 3)))
FACTS = Facts(2, 2, [(("all",), 1, 4)])


def any_chain(given, many, largest, most):
    """The parts of a chain, and a table in the kept one's place."""
    sizes = [given.randint(1, largest) for _ in range(many + 1)]
    whole = [any_table(given, left, right, most) for left, right in zip(sizes, sizes[1:])]
    kept = given.randrange(many)
    facts = Facts(whole[kept].left, whole[kept].right, [(("all",), 0, 9)])
    return (tuple(whole[:kept]), facts, tuple(whole[kept + 1:]), whole[kept])


def ways(joined):
    """The ways to choose one row of each table such that neighbors fit, counted one by one."""
    rows = [list(table.each()) for table in joined]
    return sum(all(one[1] == other[0] for one, other in zip(chosen, chosen[1:])) for chosen in itertools.product(*rows))


def joined_table(one, other):
    """The table of the joins of two neighbors."""
    return Table(tuple(tuple(sum(one.count(a, x) * other.count(x, b) for x in range(one.right))
                             for b in range(other.right)) for a in range(one.left)))


class Chains(Case):

    def test_example(self):
        facts = Facts(2, 2, [(("left", (0,)), 3, 3), (("left", (1,)), 2, 2), (("right", (0,)), 4, 4)])
        chain = Chain((Table(((2, 0), (1, 1))),), facts, ())
        self.same((chain.question(0, 2).weights, chain.whole(0, 1), ends(facts, chain.question(0, 2))),
                  (((3, 3), (1, 1)), 4, (11, 11)))
        self.same(chain.question(stop=2, start=0).weights, ((3, 3), (1, 1)))
        self.same(chain.whole(stop=1, start=0), 4)
        self.same(chain.answers(table=Table(((1, 0), (0, 5))), stop=2, start=0), 8)

    def test_what_it_tells(self):
        for before in range(6):
            for behind in range(6 - before):
                if before + behind == 0:
                    continue
                chain = Chain(before=(SQUARE,) * before, facts=FACTS, behind=(SQUARE,) * behind)
                self.same((len(chain), chain.kept), (before + 1 + behind, before))
                self.assertIs(chain.facts, FACTS)
        for name in ("kept", "facts"):
            with self.assertRaises(AttributeError):
                setattr(chain, name, 1)

    def test_ways_counted_one_by_one(self):
        given = dice(51)
        for _ in range(40):
            before, facts, behind, table = any_chain(given, given.randint(2, 4), 3, 1)
            chain = Chain(before, facts, behind)
            for start, stop in itertools.combinations(range(len(chain) + 1), 2):
                expected = ways([*before, table, *behind][start:stop])
                self.same(chain.answers(start, stop, table), expected)
                if start <= chain.kept < stop:
                    self.same(chain.question(start, stop)(table), expected)
                else:
                    self.same(chain.whole(start, stop), expected)

    def test_weights(self):
        before = (Table(((1, 2, 0),)), Table(((1, 0), (2, 1), (5, 5))))
        behind = (Table(((3,), (4,))), Table(((2, 5),)))
        chain = Chain(before, Facts(2, 2), behind)
        self.same(chain.question(2, 3).weights, ((1, 1), (1, 1)))
        self.same(chain.question(1, 3).weights, ((8, 8), (6, 6)))
        self.same(chain.question(0, 3).weights, ((5, 5), (2, 2)))
        self.same(chain.question(2, 4).weights, ((3, 4), (3, 4)))
        self.same(chain.question(2, 5).weights, ((21, 28), (21, 28)))
        self.same(chain.question(0, 5).weights, ((5 * 21, 5 * 28), (2 * 21, 2 * 28)))
        self.same(chain.question(1, 4).weights, ((24, 32), (18, 24)))
        self.same([chain.whole(*interval) for interval in ((0, 1), (1, 2), (0, 2), (3, 4), (4, 5), (3, 5))],
                  [3, 14, 7, 7, 7, 49])

    def test_two_and_six_tables_with_great_numbers(self):
        given = dice(52)
        for many in (2, 6):
            for _ in range(5):
                before, facts, behind, table = any_chain(given, many, 8, 10 ** 20)
                chain = Chain(before, facts, behind)
                parts = [*before, table, *behind]
                for start, stop in itertools.combinations(range(many + 1), 2):
                    found = parts[start]
                    for other in parts[start + 1:stop]:
                        found = joined_table(found, other)
                    self.same(chain.answers(start, stop, table), found.total)
                    if start <= chain.kept < stop:
                        self.same(chain.question(start, stop)(table), found.total)
                    else:
                        self.same(chain.whole(start, stop), found.total)
        chain = Chain((Table(((LONG,),)),), Facts(1, 1), (Table(((LONG,),)),))
        self.same(chain.question(0, 3).weights, ((LONG * LONG,),))

    def test_numbers_are_between_the_ends(self):
        given = dice(53)
        for _ in range(30):
            facts = true_facts(given, 2, 2, 4, 2)
            chain = Chain((any_table(given, 3, 2, 3),), facts, (any_table(given, 2, 2, 3),))
            question = chain.question(0, 3)
            low, high = ends(facts, question)
            numbers = [chain.answers(0, 3, table) for table in tables(2, 2, 2) if table in facts]
            self.assertTrue(all(low <= number and (high is None or number <= high) for number in numbers))

    def test_equal_to_nothing_else(self):
        chain = Chain((SQUARE,), FACTS, ())
        for other in [value for value in ODD if not isinstance(value, Agreeing)] + [FACTS, SQUARE]:
            self.same((chain == other, chain != other), (False, True))


class Wrong(Case):

    def test_the_first_part_that_is_none(self):
        for value in [value for value in ODD if value != ()] + [[SQUARE], (SQUARE, None), (None, SQUARE), SQUARE,
                                                                (FACTS,), ([SQUARE],), ((SQUARE,),)]:
            self.fails(InvalidChain, "before", Chain, value, None, None)
            self.fails(InvalidChain, "before", Chain, value, FACTS, (SQUARE,))
            self.fails(InvalidChain, "behind", Chain, (), FACTS, value)
            self.fails(InvalidChain, "behind", Chain, (SQUARE,), FACTS, value)
        for value in [*ODD, SQUARE, (FACTS,), FACTS.listed()]:
            self.fails(InvalidChain, "facts", Chain, (), value, None)
            self.fails(InvalidChain, "facts", Chain, (SQUARE,), value, (SQUARE,))

    def test_a_wrong_number_of_tables(self):
        self.fails(InvalidChain, "tables", Chain, (), FACTS, ())
        bad = Table(((0, 0, 0),))
        for before in range(7):
            self.fails(InvalidChain, "tables", Chain, (bad,) * before, FACTS, (bad,) * (6 - before))
        self.fails(InvalidChain, "tables", Chain, (bad,) * 60, FACTS, ())

    def test_the_first_table_that_does_not_fit(self):
        wide = Table(((0, 0, 0), (0, 0, 0)))
        tall = wide.turned()
        self.same(len(Chain((wide, tall), FACTS, (wide, tall))), 5)
        self.fails(InvalidChain, 1, Chain, (wide,), FACTS, ())
        self.fails(InvalidChain, 1, Chain, (), FACTS, (tall, wide))
        self.fails(InvalidChain, 1, Chain, (wide, wide, tall), FACTS, (tall,))
        self.fails(InvalidChain, 2, Chain, (SQUARE, SQUARE), Facts(3, 2), (SQUARE,))
        self.fails(InvalidChain, 3, Chain, (SQUARE, SQUARE), Facts(2, 3), (SQUARE,))
        self.fails(InvalidChain, 5, Chain, (SQUARE,), FACTS, (SQUARE, SQUARE, wide, SQUARE))

    def test_what_is_no_interval(self):
        chain = Chain((SQUARE,), FACTS, (SQUARE, SQUARE))
        bad = [(0, 0), (1, 1), (2, 1), (4, 4), (0, 5), (-1, 1), (-2, -1), (4, 5), (3, 0), (0, LONG), (-LONG, 2)]
        bad.extend([(value, 2) for value in ODD] + [(0, value) for value in ODD] + [(value, value) for value in ODD])
        for start, stop in bad:
            self.fails(InvalidMembers, (start, stop), chain.question, start, stop)
            self.fails(InvalidMembers, (start, stop), chain.whole, start, stop)
            self.fails(InvalidMembers, (start, stop), chain.answers, start, stop, None)

    def test_an_interval_with_or_without_the_kept_table(self):
        chain = Chain((SQUARE,), FACTS, (SQUARE, SQUARE))
        for start, stop in itertools.combinations(range(5), 2):
            if start <= 1 < stop:
                self.assertIsInstance(chain.question(start, stop), Question)
                self.fails(InvalidMembers, (start, stop), chain.whole, start, stop)
            else:
                self.assertIsInstance(chain.whole(start, stop), int)
                self.fails(InvalidMembers, (start, stop), chain.question, start, stop)

    def test_what_is_no_table_of_these_sizes(self):
        chain = Chain((SQUARE,), Facts(2, 3), ())
        for value in [*ODD, SQUARE, Table(((0, 0), (0, 0), (0, 0))), FACTS, ((0, 0, 0), (0, 0, 0))]:
            for start, stop in ((0, 1), (0, 2), (1, 2)):
                self.fails(InvalidTable, value, chain.answers, start, stop, value)
