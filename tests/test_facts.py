"""Point 5 and stage 2: facts, nested or apart; which tables fit, which facts break."""

import itertools

from surecounts.errors import InvalidFact, InvalidNumber, InvalidTable
from surecounts.facts import Facts
from surecounts.tables import Table
from surecounts.wheres import cells
from tests.cases import LONG, ODD, Agreeing, Case
from tests.test_wheres import NO_WHERES, WHERES

ALL = (("all",), 0, None)

# For the sizes 3 and 2.
NO_FACTS = [
    *ODD, 0, ("all",), (("all",),), (("all",), 0), (("all",), 0, 0, 0), [("all",), 0, None], (["all"], 0, None),
    ("all", 0, None), (("all",), -1, None), (("all",), None, None), (("all",), True, None), (("all",), "0", None),
    (("all",), 0, -1), (("all",), 5, 4), (("all",), 1, True), (("all",), 0, False), (("all",), 0, "1"),
    (("all",), 0, [1]), (("all",), (0,), None), (("all",), Agreeing(), None), (("all",), 0, Agreeing()),
    (Agreeing(), 0, None), (("all",), LONG, LONG - 1), (("left", [0]), 0, None), (("left", ()), 0, 1),
    (("left", (3,)), 0, 1), (("right", (2,)), 0, 1), (("cell", 3, 0), 0, 1), (("cell", True, 0), 0, 1),
]


def tables(left, right, most):
    """All tables with two sizes and at most so many rows in a cell."""
    for counts in itertools.product(range(most + 1), repeat=left * right):
        yield Table(tuple(counts[right * a:right * a + right] for a in range(left)))


def true(fact, table):
    rows = sum(table.count(a, b) for a, b in cells(table.left, table.right, fact[0]))
    return rows >= fact[1] and (fact[2] is None or rows <= fact[2])


class Making(Case):

    def test_facts_are_kept_in_order(self):
        given = [(where, low, high) for where in WHERES for low, high in ((0, None), (2, 2), (1, LONG), (LONG, LONG))]
        given = [fact for fact in given if fact[0] not in (("left", (0, 2)), ("right", (0, 1)))]
        facts = Facts(3, 2, given)
        self.same(facts.listed(), given)
        self.same((facts.left, facts.right, len(facts)), (3, 2, len(given)))
        self.same(Facts(3, 2, tuple(reversed(given))).listed(), given[::-1])
        self.same([facts.fact(index) for index in range(len(facts))], given)

    def test_no_facts(self):
        for facts in (Facts(8, 1), Facts(8, 1, ()), Facts(8, 1, []), Facts(right=1, left=8), Facts(8, 1, facts=[])):
            self.same((facts.left, facts.right, len(facts), facts.listed()), (8, 1, 0, []))
        self.assertIn(Table(((0, 0),)), Facts(1, 2))

    def test_equal_facts_are_two(self):
        self.same(len(Facts(1, 1, [ALL, ALL])), 2)

    def test_sizes_come_first(self):
        for size in [0, 9, -1, LONG, *ODD]:
            self.fails(InvalidNumber, size, Facts, size, 0, None)
            self.fails(InvalidNumber, size, Facts, 8, size, [5])
            self.fails(InvalidNumber, size, Facts, 1, size)

    def test_what_is_no_such_list(self):
        for value in ODD:
            if not isinstance(value, (list, tuple)):
                self.fails(InvalidFact, None, Facts, 2, 2, value)
        self.fails(InvalidFact, None, Facts, 2, 2, iter([]))
        self.fails(InvalidFact, None, Facts, 2, 2, {ALL: 1})
        self.fails(InvalidFact, None, Facts, 2, 2, Facts(2, 2))

    def test_forty_facts_and_forty_one(self):
        self.same(len(Facts(2, 2, [ALL] * 40)), 40)
        self.fails(InvalidFact, None, Facts, 2, 2, [ALL] * 41)
        self.fails(InvalidFact, None, Facts, 2, 2, (ALL,) * 41)
        self.fails(InvalidFact, None, Facts, 2, 2, [None] * 41)

    def test_first_that_is_no_fact(self):
        for value in NO_FACTS:
            self.fails(InvalidFact, 0, Facts, 3, 2, [value])
            self.fails(InvalidFact, 2, Facts, 3, 2, (ALL, ALL, value, ALL, None))
        for where in NO_WHERES:
            self.fails(InvalidFact, 1, Facts, 3, 2, [ALL, (where, 0, None)])
        crossing = [(("left", (0, 1)), 0, None), (("left", (1, 2)), 0, None)]
        self.fails(InvalidFact, 2, Facts, 3, 2, [*crossing, None])

    def test_neither_nested_nor_apart(self):
        sets = [values for many in range(1, 5) for values in itertools.combinations(range(4), many)]
        for one, other in itertools.product(sets, repeat=2):
            common = set(one) & set(other)
            good = common in (set(), set(one), set(other))
            for kind, sizes in (("left", (4, 1)), ("right", (1, 4))):
                pair = [((kind, one), 0, None), ((kind, other), 0, None)]
                if good:
                    self.same(Facts(*sizes, pair).listed(), pair)
                else:
                    self.fails(InvalidFact, (0, 1), Facts, *sizes, pair)

    def test_sets_of_different_columns_may_cross(self):
        given = [(("left", (0, 1)), 0, 1), (("right", (1, 2)), 0, 1), (("all",), 0, 1), (("cell", 1, 2), 0, 1),
                 (("cell", 0, 0), 0, 1)]
        self.same(Facts(3, 3, given).listed(), given)

    def test_first_two_that_cross(self):
        def named(kind, *values):
            return ((kind, values), 0, None)
        given = [ALL, named("left", 0, 1), named("right", 1, 2), named("left", 3, 4), named("right", 0, 1),
                 named("left", 1, 2)]
        self.fails(InvalidFact, (1, 5), Facts, 5, 5, given)
        self.fails(InvalidFact, (2, 4), Facts, 5, 5, given[:5])
        self.fails(InvalidFact, (0, 3), Facts, 5, 5, [named("left", 0, 1), named("right", 0, 1), named("right", 1, 2),
                                                      named("left", 1, 2)])

    def test_what_is_passed_is_not_kept_to_be_changed(self):
        given = [ALL]
        facts = Facts(1, 1, given)
        given.append(ALL)
        given[0] = None
        self.same(facts.listed(), [ALL])
        self.changed_freely(facts.listed)
        self.changed_freely(lambda: facts.over(0, 0))
        self.changed_freely(lambda: Facts(1, 1, [(("all",), 1, 1)])(Table(((0,),))))


class More(Case):

    def setUp(self):
        self.given = [(("left", (0,)), 3, 3), (("left", (1,)), 2, 2), (("right", (0,)), 4, 4)]
        self.facts = Facts(2, 2, self.given)

    def tearDown(self):
        self.same(self.facts.listed(), self.given)

    def test_example(self):
        self.same((Table(((3, 0), (1, 1))) in self.facts, self.facts(Table(((1, 0), (2, 1)))), self.facts.over(0, 0)),
                  (True, [0, 1, 2], [0, 2]))

    def test_fact_and_without(self):
        for index in range(3):
            self.same(self.facts.fact(index), self.given[index])
            self.same(self.facts.fact(index=index), self.given[index])
            self.same(self.facts.without(index).listed(), self.given[:index] + self.given[index + 1:])
            self.same(self.facts.without(index=index).left, 2)
        for index in [-1, 3, 40, LONG, -LONG, *ODD]:
            self.fails(InvalidNumber, index, self.facts.fact, index)
            self.fails(InvalidNumber, index, self.facts.without, index)
        self.fails(InvalidNumber, 0, Facts(2, 2).fact, 0)
        self.fails(InvalidNumber, 0, Facts(2, 2).without, 0)

    def test_with_fact(self):
        more = self.facts.with_fact((("cell", 1, 1), 0, None))
        self.same(more.listed(), [*self.given, (("cell", 1, 1), 0, None)])
        self.same((more.left, more.right), (2, 2))
        self.same(len(self.facts.with_fact(fact=ALL)), 4)
        for value in NO_FACTS:
            self.fails(InvalidFact, 3, self.facts.with_fact, value)
        self.fails(InvalidFact, (1, 2), Facts(3, 1, [ALL, (("left", (0, 1)), 0, 1)]).with_fact,
                   (("left", (1, 2)), 0, 1))
        full = Facts(2, 2, [ALL] * 40)
        self.fails(InvalidFact, None, full.with_fact, ALL)
        self.fails(InvalidFact, None, full.with_fact, None)
        self.same(len(full), 40)

    def test_and(self):
        other = Facts(2, 2, [(("all",), 1, 9), (("left", (0,)), 3, 3)])
        self.same((self.facts & other).listed(), self.given + other.listed())
        self.same((other & self.facts).listed(), other.listed() + self.given)
        self.same((self.facts & Facts(2, 2)).listed(), self.given)
        self.same(((self.facts & other).left, (self.facts & other).right), (2, 2))
        self.same(other.listed(), [(("all",), 1, 9), (("left", (0,)), 3, 3)])

    def test_and_with_what_does_not_go_with_it(self):
        for other in [*ODD, self.given, Facts(2, 3), Facts(3, 2), Table(((0, 0), (0, 0)))]:
            self.fails(InvalidFact, None, lambda: self.facts & other)
        self.same(len(Facts(2, 2, [ALL] * 20) & Facts(2, 2, [ALL] * 20)), 40)
        self.fails(InvalidFact, None, lambda: Facts(2, 2, [ALL] * 20) & Facts(2, 2, [ALL] * 21))
        one = Facts(3, 1, [ALL, (("left", (0, 1)), 0, None)])
        other = Facts(3, 1, [(("left", (2,)), 0, None), (("left", (1, 2)), 0, None)])
        self.fails(InvalidFact, (1, 3), lambda: one & other)
        many = Facts(3, 1, [(("left", (0, 1)), 0, None)] * 21)
        self.fails(InvalidFact, None, lambda: many & Facts(3, 1, [(("left", (1, 2)), 0, None)] * 20))

    def test_equal(self):
        self.same(self.facts == Facts(2, 2, tuple(self.given)), True)
        self.same(self.facts != Facts(2, 2, tuple(self.given)), False)
        self.same(self.facts == Facts(2, 2, self.given[::-1]), False)
        self.same(self.facts == Facts(2, 2, self.given[:2]), False)
        self.same(self.facts == Facts(3, 2, self.given), False)
        self.same(self.facts == Facts(2, 3, self.given), False)
        self.same(Facts(2, 3) == Facts(2, 3), True)
        self.same(Facts(2, 3) == Facts(3, 2), False)
        self.same(Facts(1, 1, [ALL]) == Facts(1, 1, [(("all",), 0, 9)]), False)
        for other in [*ODD, self.given, tuple(self.given), Table(((0, 0), (0, 0)))]:
            self.same(self.facts == other, False)
            self.same(self.facts != other, True)

    def test_facts_never_change(self):
        for name in ("left", "right"):
            with self.assertRaises(AttributeError):
                setattr(self.facts, name, 1)


class Over(Case):

    def test_over(self):
        given = [(where, 0, None) for where in WHERES if where != ("right", (1,))]
        facts = Facts(3, 2, given)
        for left in range(3):
            for right in range(2):
                expected = [index for index, fact in enumerate(given) if (left, right) in cells(3, 2, fact[0])]
                self.same(facts.over(left, right), expected)
                self.same(facts.over(right=right, left=left), expected)
        self.same(Facts(3, 2).over(2, 1), [])

    def test_values_that_are_none(self):
        facts = Facts(3, 2, [ALL])
        for value in [-1, 3, LONG, *ODD]:
            self.fails(InvalidNumber, value, facts.over, value, 9)
            self.fails(InvalidNumber, value, facts.over, 2, value)
        self.fails(InvalidNumber, 2, facts.over, 2, 2)

    def test_limits(self):
        facts = Facts(2, 2, [(("all",), 2, None), (("left", (0,)), 1, 7), (("left", (0, 1)), 9, 9), (("all",), 1, 8),
                             (("left", (0,)), 3, 5), (("all",), 0, LONG), (("left", (0,)), 2, None),
                             (("cell", 1, 1), 4, None)])
        self.same(facts.limits(("all",)), (2, 8))
        self.same(facts.limits(("left", (0,))), (3, 5))
        self.same(facts.limits(where=("left", (0, 1))), (9, 9))
        self.same(facts.limits(("cell", 1, 1)), (4, None))
        for where in (("cell", 0, 0), ("right", (0,)), ("right", (0, 1)), ("left", (1,))):
            self.same(facts.limits(where), (0, None))

    def test_limits_may_cross(self):
        self.same(Facts(1, 1, [(("all",), 5, None), (("all",), 0, 2)]).limits(("all",)), (5, 2))

    def test_limits_of_no_where(self):
        for where in NO_WHERES:
            self.fails(InvalidFact, where, Facts(3, 2).limits, where)


class Tables(Case):

    def test_fits_and_breaks(self):
        facts = Facts(2, 2, [(("left", (0,)), 1, 2), (("right", (1,)), 0, 1), (("cell", 1, 1), 0, 0),
                             (("all",), 2, None)])
        seen = set()
        for table in tables(2, 2, 2):
            expected = [index for index, fact in enumerate(facts.listed()) if not true(fact, table)]
            self.same(facts(table), expected)
            self.same(table in facts, expected == [])
            seen.update(expected)
        self.assertEqual(seen, {0, 1, 2, 3})
        self.same(facts(table=Table(((1, 0), (1, 0)))), [])

    def test_limits_belong_to_what_fits(self):
        for where in WHERES:
            for rows in (3, 4, 5, 6):
                a, b = cells(3, 2, where)[-1]
                table = Table.of_rows(3, 2, [(a, b)] * rows)
                self.same(table in Facts(3, 2, [(where, 4, 5)]), rows in (4, 5))
                self.same(table in Facts(3, 2, [(where, 4, None)]), rows >= 4)

    def test_long_limits(self):
        facts = Facts(1, 1, [(("all",), LONG, LONG)])
        self.same((Table(((LONG,),)) in facts, facts(Table(((LONG + 1,),))), facts(Table(((LONG - 1,),)))),
                  (True, [0], [0]))

    def test_what_is_no_table_of_these_sizes(self):
        facts = Facts(2, 3)
        self.assertIn(Table(((0, 0, 0), (0, 0, 9))), facts)
        for value in [*ODD, ((0, 0, 0), (0, 0, 0)), Table(((0, 0), (0, 0), (0, 0))), Table(((0, 0), (0, 0))),
                      Table(((0, 0, 0),)), facts]:
            self.same(value in facts, False)
            self.fails(InvalidTable, value, facts, value)
