"""Points 3 (c), 8 and stage 6: the parts of facts that already contradict themselves."""

import itertools

from surecounts.contradictions import contradiction, is_contradiction, least_part
from surecounts.ends import fitting
from surecounts.facts import Facts
from surecounts.questions import Question
from surecounts.tables import Table
from tests.cases import LONG, ODD, Agreeing, Case
from tests.samples import any_facts, dice, shown_above, tables, true, true_facts

SMALL = {(1, 2): tables(1, 2, 6), (2, 1): tables(2, 1, 6), (2, 2): tables(2, 2, 3)}


class Parts(Case):

    def is_right(self, facts, value):
        """A contradiction, word by word as the document has it."""
        part, prices, given = value
        self.assertEqual(list(part), sorted(set(part)))
        self.same([price.__class__ for price in prices], [int] * len(facts))
        self.assertTrue(all(price == 0 for index, price in enumerate(prices) if index not in part))
        zero = Question(((0,) * facts.right,) * facts.left)
        self.assertLess(shown_above(facts, zero, prices), 0)
        self.same((part.__class__, prices.__class__, given.__class__, len(given)), (tuple, tuple, tuple, len(part)))
        for index, table in zip(part, given):
            self.same((table.left, table.right), (facts.left, facts.right))
            self.assertTrue(all(true(facts.fact(other), table) for other in part if other != index))

    def test_example(self):
        facts = Facts(2, 2, [(("left", (0,)), 3, None), (("right", (1,)), 0, 9), (("all",), 0, 2)])
        self.same((contradiction(facts)[0], least_part(facts), is_contradiction(facts, contradiction(facts))),
                  ((0, 2), (0, 2), True))
        self.is_right(facts, contradiction(facts=facts))
        self.same(least_part(facts=facts), (0, 2))
        self.same(is_contradiction(value=contradiction(facts), facts=facts), True)

    def test_all_tables_that_could_fit(self):
        given = dice(21)
        seen = {True: 0, False: 0}
        for _ in range(150):
            left, right = given.choice(list(SMALL))
            facts = any_facts(given, left, right, given.randint(0, 6), 2)
            def some(part):
                return any(all(true(facts.fact(index), table) for index in part) for table in SMALL[left, right])
            seen[some(range(len(facts)))] += 1
            if some(range(len(facts))):
                self.same((contradiction(facts), least_part(facts)), (None, None))
                continue
            part = list(range(len(facts)))
            for index in range(len(facts)):
                if not some([other for other in part if other != index]):
                    part.remove(index)
            self.same(least_part(facts), tuple(part))
            self.is_right(facts, contradiction(facts))
            self.same(is_contradiction(facts, contradiction(facts)), True)
        self.assertGreater(min(seen.values()), 40, seen)

    def test_facts_are_gone_through_from_the_first_one(self):
        low, high = (("all",), 5, None), (("all",), 0, 4)
        for given, part in (([low, high, low], (1, 2)), ([low, high, high], (0, 2)), ([low, low, high, high], (1, 3)),
                            ([high, low, high, low], (2, 3)), ([low, high], (0, 1)),
                            ([(("left", (0,)), 5, None), high, low, high], (2, 3)),
                            ([low, high, (("left", (0,)), 5, None)], (1, 2))):
            self.same(least_part(Facts(1, 1, given)), part)

    def test_great_ones(self):
        given = dice(22)
        for most in (5, 10 ** 50, 10 ** 59):
            for _ in range(6):
                facts = any_facts(given, 8, 8, 40, most)
                found = contradiction(facts)
                self.is_right(facts, found)
                self.same(is_contradiction(facts, found), True)
                part = list(range(len(facts)))
                for index in range(len(facts)):
                    others = [other for other in part if other != index]
                    if fitting(Facts(8, 8, [facts.fact(other) for other in others])) is None:
                        part = others
                self.same(least_part(facts), tuple(part))

    def test_many_parts_of_many_facts(self):
        # All rows of eight values are needed on the left, one too few is let through on the right.
        facts = Facts(8, 8, [(("left", (value,)), LONG, None) for value in range(8)]
                      + [(("right", (value,)), 0, LONG - (value == 7)) for value in range(8)])
        self.same(least_part(facts), tuple(range(16)))
        self.is_right(facts, contradiction(facts))

    def test_none(self):
        given = dice(23)
        self.same((contradiction(Facts(1, 1)), least_part(Facts(8, 8))), (None, None))
        for _ in range(20):
            facts = true_facts(given, 8, 8, 40, 10 ** 50)
            self.same((contradiction(facts), least_part(facts)), (None, None))
            self.same(is_contradiction(facts, None), False)

    def test_equal_calls_return_equal_results(self):
        given = dice(24)
        for _ in range(20):
            facts = any_facts(given, 3, 3, 12, 9)
            self.assertEqual(contradiction(facts), contradiction(Facts(3, 3, facts.listed())))


class Checked(Case):

    def setUp(self):
        self.facts = Facts(1, 2, [(("all",), 0, 4), (("right", (0,)), 3, None), (("right", (1,)), 2, 9)])
        self.good = ((0, 1, 2), (1, -1, -1), (Table(((3, 2),)), Table(((0, 2),)), Table(((3, 0),))))

    def test_right(self):
        self.same(is_contradiction(self.facts, self.good), True)
        part, prices, given = self.good
        self.same(is_contradiction(self.facts, (part, (7, -7, -7), given)), True)
        self.same(is_contradiction(self.facts, (part, prices, (Table(((9, 9),)), Table(((2, 2),)), given[2]))), True)

    def test_parts_that_are_none(self):
        _, prices, given = self.good
        for part in [*ODD, 0, [0, 1, 2], (0, 1), (0, 2, 1), (0, 1, 1, 2), (0, 1, 3), (-1, 0, 1), (1, 2), (2,),
                     (0, True, 2), (False, 1, 2), (0, 1, 2.0), (0, 1, "2"), (0, 1, None), (0, 1, Agreeing()),
                     (0, 1, 2, 3), (0, 1, 2, 2)]:
            self.same(is_contradiction(self.facts, (part, prices, given)), False)
            self.same(is_contradiction(self.facts, (part, prices, given[:2])), False)

    def test_parts_in_another_order(self):
        part, prices, given = self.good
        for order in itertools.permutations(range(3)):
            value = (order, prices, tuple(given[index] for index in order))
            self.same(is_contradiction(self.facts, value), order == part)
        for doubled in ((0, 0, 1, 2), (0, 1, 1, 2), (0, 1, 2, 2), (2, 0, 1, 2), (0, 1, 2, 0)):
            value = (doubled, prices, tuple(given[index] for index in doubled))
            self.same(is_contradiction(self.facts, value), False)

    def test_prices_that_are_none(self):
        part, _, given = self.good
        for prices in [*ODD, 0, [1, -1, -1], (1, -1), (1, -1, -1, 0), (1, -1, 0), (0, 0, 0), (1, 0, 0), (0, -1, -1),
                       (2, -1, -1), (-1, 1, 1), (True, -1, -1), (1, -1, -1.0), (1, -1, None), (1, -2, -1),
                       (1, -1, Agreeing())]:
            self.same(is_contradiction(self.facts, (part, prices, given)), False)

    def test_tables_that_are_none(self):
        part, prices, given = self.good
        for value in [*ODD, list(given), given[:2], given + given[:1], given[::-1], given[1:] + given[:1]]:
            self.same(is_contradiction(self.facts, (part, prices, value)), False)
        for at in range(3):
            for table in [*ODD, Table(((0, 0),)), Table(((3, 2), (0, 0))), Table(((3,),)), ((3, 2),),
                          Table(((3, 10),)), *given[:at], *given[at + 1:]]:
                bent = given[:at] + (table,) + given[at + 1:]
                self.same(is_contradiction(self.facts, (part, prices, bent)), False)

    def test_other_values(self):
        for value in [*ODD, self.facts, list(self.good), self.good[:2], self.good + (0,), (self.good,),
                      ((), (0, 0, 0), ()), self.good[::-1]]:
            self.same(is_contradiction(self.facts, value), False)

    def test_a_part_that_is_not_least(self):
        facts = Facts(1, 1, [(("all",), 0, 1), (("all",), 2, None), (("all",), 3, None)])
        ones = (Table(((2,),)), Table(((1,),)), Table(((1,),)))
        self.same(is_contradiction(facts, ((0, 1), (1, -1, 0), ones[:2])), True)
        self.same(is_contradiction(facts, ((0, 2), (1, 0, -1), (Table(((3,),)), ones[1]))), True)
        self.same(is_contradiction(facts, ((0, 2), (1, -1, 0), (Table(((3,),)), ones[1]))), False)
        self.same(is_contradiction(facts, ((0, 1), (1, 0, -1), ones[:2])), False)
        for counts in itertools.product(range(4), repeat=3):
            given = tuple(Table(((count,),)) for count in counts)
            self.same(is_contradiction(facts, ((0, 1, 2), (1, -1, 0), given)), False)
            self.same(is_contradiction(facts, ((0, 1, 2), (2, -1, -1), given)), False)

    def test_facts_that_some_table_fits(self):
        facts = Facts(1, 1, [(("all",), 0, 4), (("all",), 4, None)])
        for prices in itertools.product(range(-2, 3), repeat=2):
            for part in ((), (0,), (1,), (0, 1)):
                given = (Table(((4,),)),) * len(part)
                self.same(is_contradiction(facts, (part, prices, given)), False)
