"""Points 3 (b), 7 and stage 6: the numbers that prices show, and what greatest and least may return."""

from surecounts.ends import greatest, least
from surecounts.errors import Contradictory, InvalidQuestion
from surecounts.facts import Facts
from surecounts.papers import is_greatest, is_least, lower, upper
from surecounts.questions import Question
from surecounts.tables import Table
from tests.cases import LONG, ODD, Agreeing, Case
from tests.samples import any_facts, any_question, dice, shown_above, shown_below, tables, true, true_facts

NO_QUESTIONS = [*ODD, 0, ((0, 0), (0, 0)), Question(((0, 0),)), Question(((0,), (0,))), Question(((0,) * 3,) * 2),
                Table(((0, 0), (0, 0)))]


class Prices(Case):

    def setUp(self):
        self.facts = Facts(2, 2, [(("left", (0,)), 3, 3), (("left", (1,)), 2, 2), (("right", (0,)), 4, 4)])
        self.one = Question.at(2, 2, ("cell", 0, 0))

    def test_example(self):
        self.same((upper(self.facts, self.one, (1, 0, 0)), lower(self.facts, self.one, (0, -1, 1)),
                   upper(self.facts, self.one, (0, 0, 0))), (3, 2, None))
        self.same(upper(prices=(1, 0, 0), question=self.one, facts=self.facts), 3)
        self.same(lower(prices=(0, -1, 1), question=self.one, facts=self.facts), 2)

    def test_whoever_wrote_them(self):
        given = dice(11)
        shown = {"above": 0, "below": 0}
        for _ in range(400):
            facts = any_facts(given, given.randint(1, 3), given.randint(1, 3), given.randint(0, 4), 3)
            question = any_question(given, facts.left, facts.right, 2)
            for _ in range(10):
                prices = tuple(given.randint(-3, 3) for _ in range(len(facts)))
                above, below = shown_above(facts, question, prices), shown_below(facts, question, prices)
                self.same((upper(facts, question, prices), lower(facts, question, prices)), (above, below))
                shown["above"] += above is not None
                shown["below"] += below is not None
        self.assertGreater(min(shown.values()), 200, shown)

    def test_no_table_that_fits_is_beyond(self):
        given = dice(12)
        checked = 0
        for _ in range(60):
            facts = any_facts(given, 2, 2, 4, 2)
            question = any_question(given, 2, 2, 3)
            numbers = [question(table) for table in tables(2, 2, 3) if all(true(fact, table) for fact in facts.listed())]
            if not numbers:
                continue
            above, below = [], []
            for _ in range(40):
                prices = tuple(given.randint(-4, 4) for _ in range(4))
                above.append(upper(facts, question, prices))
                below.append(lower(facts, question, prices))
            above = [number for number in above if number is not None]
            below = [number for number in below if number is not None]
            checked += len(above) + len(below)
            self.assertTrue(all(number >= max(numbers) for number in above))
            self.assertTrue(all(number <= min(numbers) for number in below))
            self.assertTrue(all(low <= high for low in below for high in above))
        self.assertGreater(checked, 100)

    def test_a_price_where_there_is_no_high(self):
        facts = Facts(1, 1, [(("all",), 2, None), (("all",), 0, 7)])
        one = Question(((1,),))
        self.same(upper(facts, one, (1, 0)), None)
        self.same(upper(facts, one, (1, 1)), None)
        self.same(upper(facts, one, (0, 1)), 7)
        self.same(upper(facts, one, (-1, 2)), 12)
        self.same(upper(facts, one, (0, 0)), None)
        self.same(lower(facts, one, (1, 0)), 2)
        self.same(lower(facts, one, (-1, 2)), None)
        self.same(lower(facts, one, (2, -1)), -3)
        self.same(lower(facts, one, (0, 0)), 0)
        self.same(lower(facts, one, (2, 0)), None)
        self.same(upper(facts, -one, (-1, 0)), -2)
        self.same(lower(facts, -one, (0, -1)), -7)

    def test_no_facts(self):
        facts = Facts(1, 2)
        self.same(upper(facts, Question(((0, -1),)), ()), 0)
        self.same(upper(facts, Question(((0, 1),)), ()), None)
        self.same(lower(facts, Question(((0, 1),)), ()), 0)
        self.same(lower(facts, Question(((0, -1),)), ()), None)
        self.same(upper(facts, Question(((0, 0),)), (0,)), None)

    def test_every_cell_counts(self):
        for a in range(3):
            for b in range(2):
                question = Question.at(3, 2, ("cell", a, b))
                facts = Facts(3, 2, [(("cell", x, y), 1, 4) for x in range(3) for y in range(2)])
                for at in range(6):
                    prices = tuple(int(index == at) for index in range(6))
                    self.same(upper(facts, question, prices), 4 if at == 2 * a + b else None)
                    self.same(lower(facts, question, prices), 1 if at == 2 * a + b else None)

    def test_long_prices(self):
        facts = Facts(1, 1, [(("all",), 3, LONG), (("all",), LONG, None)])
        question = Question(((LONG,),))
        self.same(upper(facts, question, (LONG + 5, -5)), (LONG + 5) * LONG - 5 * LONG)
        self.same(upper(facts, question, (LONG + 5, -6)), None)
        self.same(lower(facts, question, (-5, LONG + 5)), -5 * LONG + (LONG + 5) * LONG)

    def test_what_is_no_prices(self):
        for value in [*ODD, 3, [1, 0, 0], (1, 0), (1, 0, 0, 0), (True, 0, 0), (1, False, 0), (1, 0, None), ("1", 0, 0),
                      (1, 0, (0,)), (Agreeing(), 0, 0), (1, 0, Agreeing()), ((1, 0, 0),), {0: 1, 1: 0, 2: 0},
                      iter((1, 0, 0)), (1, 0, 0.0)]:
            self.same(upper(self.facts, self.one, value), None)
            self.same(lower(self.facts, Question(((1, 1), (1, 1))), value), None)

    def test_no_question(self):
        for value in NO_QUESTIONS:
            for function in (upper, lower, is_greatest, is_least):
                self.fails(InvalidQuestion, value, function, self.facts, value, None)
                self.fails(InvalidQuestion, value, function, self.facts, value, (0, 0, 0))


class Checked(Case):

    def bent(self, value):
        """Values that are nearly this tuple."""
        yield list(value)
        yield value + (0,)
        yield value + value
        for at in range(len(value)):
            yield value[:at] + value[at + 1:]
            yield value[:at] + value[at:at + 1] * 2 + value[at + 1:]
            for other in [*ODD, -1, 1, 2, LONG]:
                if other.__class__ is not value[at].__class__ or other != value[at]:
                    yield value[:at] + (other,) + value[at + 1:]

    def test_what_greatest_and_least_return(self):
        given = dice(13)
        for _ in range(60):
            facts = true_facts(given, given.randint(1, 4), given.randint(1, 4), given.randint(0, 8), 5)
            question = any_question(given, facts.left, facts.right, 5)
            self.same(is_greatest(facts, question, greatest(facts, question)), True)
            self.same(is_least(facts, question, least(facts, question)), True)

    def test_by_name(self):
        facts = Facts(1, 1, [(("all",), 1, 3)])
        one = Question(((2,),))
        self.same(is_greatest(value=(6, Table(((3,),)), (2,)), question=one, facts=facts), True)
        self.same(is_least(value=(2, Table(((1,),)), (2,)), question=one, facts=facts), True)

    def test_a_number_bent(self):
        facts = Facts(1, 2, [(("all",), 1, 3), (("cell", 0, 1), 0, 1)])
        question = Question(((2, 5),))
        good = (9, Table(((2, 1),)), (2, 3))
        self.same(is_greatest(facts, question, good), True)
        for value in self.bent(good):
            self.same(is_greatest(facts, question, value), False)
        lowest = (2, Table(((1, 0),)), (2, 0))
        self.same(is_least(facts, question, lowest), True)
        for value in self.bent(lowest):
            self.same(is_least(facts, question, value), False)
        for value in ((9, Table(((3, 0),)), (2, 3)), (9, Table(((0, 1),)), (2, 3)), (9, Table(((3, 1),)), (2, 3)), (9, Table(((0, 2),)), (2, 3)), (11, Table(((3, 1),)), (2, 3)),
                      (9, Table(((2, 1), (0, 0))), (2, 3)), (6, Table(((3, 0),)), (2, 3)),
                      (9, ((2, 1),), (2, 3)), (9, Table(((2, 1),)), [2, 3]), (9, Table(((2, 1),)), (5, 0)),
                      (9, Table(((2, 1),)), (3, 0)), (9, Table(((2, 1),)), (2, 3, 0)), (9, Table(((2, 1),)), (2, True)),
                      (None, Table(((2, 1),)), (2, 3)), (None, Table(((2, 1),)), (0, 1)), lowest):
            self.same(is_greatest(facts, question, value), False)

    def test_one_as_a_number(self):
        facts = Facts(1, 1, [(("all",), 1, 1)])
        one = Question(((1,),))
        for check in (is_greatest, is_least):
            self.same(check(facts, one, (1, Table(((1,),)), (1,))), True)
            self.same(check(facts, one, (True, Table(((1,),)), (1,))), False)
            self.same(check(facts, one, (1, Table(((1,),)), (True,))), False)
            self.same(check(facts, one, (1.0, Table(((1,),)), (1,))), False)
            self.same(check(facts, one, (Agreeing(), Table(((1,),)), (1,))), False)
            self.same(check(facts, one, (1, Agreeing(), (1,))), False)
            self.same(check(facts, one, (1, Table(((1,),)), Agreeing())), False)
            for value in [*ODD, 1, (1, Table(((1,),)))]:
                self.same(check(facts, one, value), False)

    def test_several_prices_may_be_right(self):
        facts = Facts(1, 1, [(("all",), 2, 4), (("left", (0,)), 0, 4), (("cell", 0, 0), 4, 9)])
        question = Question(((3,),))
        for prices, right in (((3, 0, 0), True), ((0, 3, 0), True), ((1, 2, 0), True), ((0, 0, 3), False),
                              ((0, 4, -1), True), ((4, 0, -1), True), ((-1, 4, 0), False), ((4, -1, 0), False)):
            self.same(is_greatest(facts, question, (12, Table(((4,),)), prices)), right)

    def test_no_number(self):
        facts = Facts(2, 2, [(("left", (0,)), 0, 3), (("all",), 2, None)])
        question = Question(((1, -1), (1, 1)))
        for table in (Table(((0, 0), (2, 0))), Table(((3, 0), (0, 9)))):
            for cell in ((1, 0), (1, 1)):
                self.same(is_greatest(facts, question, (None, table, cell)), True)
                self.same(is_least(facts, -question, (None, table, cell)), True)
                self.same(is_least(facts, question, (None, table, cell)), False)
            for cell in ((0, 0), (0, 1), (2, 0), (0, 2), (-1, 0), (1, -1), [1, 0], (1,), (1, 0, 0), (True, 0),
                         (1, False), (1, 1.0), 1, None, "10", (1, Agreeing()), Agreeing(), (0, 0)):
                self.same(is_greatest(facts, question, (None, table, cell)), False)
                self.same(is_least(facts, -question, (None, table, cell)), False)
        for table in (Table(((0, 0), (1, 0))), Table(((4, 0), (0, 0))), Table(((2,), (0,))), ((0, 0), (2, 0)), None,
                      Agreeing()):
            self.same(is_greatest(facts, question, (None, table, (1, 0))), False)
            self.same(is_least(facts, -question, (None, table, (1, 0))), False)
        good = (None, Table(((0, 0), (2, 0))), (1, 0))
        for value in self.bent(good):
            self.same(is_greatest(facts, question, value), False)
            self.same(is_least(facts, -question, value), False)
        self.same(is_greatest(facts, Question(((0, 0), (0, 0))), good), False)

    def test_a_fact_with_a_high_over_the_cell(self):
        table = Table(((2, 0), (0, 0)))
        for where, right in ((("all",), False), (("left", (0,)), False), (("left", (1,)), True), (("right", (1,)), True),
                             (("right", (0, 1)), False), (("cell", 0, 0), False), (("cell", 0, 1), True)):
            one = Question.at(2, 2, ("cell", 0, 0))
            self.same(is_greatest(Facts(2, 2, [(where, 0, 9)]), one, (None, table, (0, 0))), right)
            self.same(is_least(Facts(2, 2, [(where, 0, 9)]), -one, (None, table, (0, 0))), right)
            self.same(is_greatest(Facts(2, 2, [(where, 0, None)]), one, (None, table, (0, 0))), True)

    def test_facts_that_contradict_each_other(self):
        facts = Facts(1, 1, [(("all",), 2, None), (("all",), 0, 1)])
        with self.assertRaises(Contradictory):
            greatest(facts, Question(((1,),)))
        for number in range(4):
            self.same(is_greatest(facts, Question(((1,),)), (number, Table(((number,),)), (0, 1))), False)
            self.same(is_least(facts, Question(((1,),)), (number, Table(((number,),)), (1, 0))), False)
