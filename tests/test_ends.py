"""Points 3 (a), (c), 5, 7 and stage 5: the ends of a question, with tables and prices, or why there are none."""

from surecounts.contradictions import least_part
from surecounts.ends import ends, fitting, greatest, least
from surecounts.errors import Contradictory, InvalidQuestion
from surecounts.facts import Facts
from surecounts.questions import Question
from surecounts.tables import Table
from tests.cases import LONG, ODD, Case
from tests.samples import (
    any_facts, any_question, dice, inside, rows, shown_above, shown_below, tables, true, true_facts, wheres,
)

# Rows enough that a table with more of them cannot differ in what small facts tell of it.
ALL_TABLES = {(2, 2): tables(2, 2, 4), (1, 3): tables(1, 3, 6), (3, 1): tables(3, 1, 6), (1, 1): tables(1, 1, 9)}


def free(facts, a, b):
    """Whether no fact with a high is over a cell."""
    return not any(fact[2] is not None and inside(fact[0], a, b) for fact in facts.listed())


def first_free(facts, question, sign):
    """The first cell in which the number can rise (sign 1) or fall (sign -1) without an end."""
    for a in range(facts.left):
        for b in range(facts.right):
            if question.weight(a, b) * sign > 0 and free(facts, a, b):
                return (a, b)
    return None


class Ends(Case):

    def fitted(self, facts, table):
        self.assertIsInstance(table, Table)
        self.same((table.left, table.right), (facts.left, facts.right))
        self.assertTrue(all(true(fact, table) for fact in facts.listed()))

    def has_greatest(self, facts, question):
        """What greatest returns is right: prices show that no table has more. Returns the number."""
        number, table, shown = greatest(facts, question)
        self.fitted(facts, table)
        cell = first_free(facts, question, 1)
        if cell is not None:
            self.same((number, shown), (None, cell))
            return None
        self.assertIsInstance(shown, tuple)
        self.same({price.__class__ for price in shown} <= {int}, True)
        self.same((number, question(table)), (number, number))
        self.same(shown_above(facts, question, shown), number)
        return number

    def has_least(self, facts, question):
        number, table, shown = least(facts, question)
        self.fitted(facts, table)
        cell = first_free(facts, question, -1)
        if cell is not None:
            self.same((number, shown), (None, cell))
            return None
        self.assertIsInstance(shown, tuple)
        self.same({price.__class__ for price in shown} <= {int}, True)
        self.same((number, question(table)), (number, number))
        self.same(shown_below(facts, question, shown), number)
        return number

    def has_ends(self, facts, question):
        found = (self.has_least(facts, question), self.has_greatest(facts, question))
        self.same(ends(facts, question), found)
        return found

    def has_none(self, facts, question):
        """No table fits, and the errors tell a least part of why."""
        self.same(fitting(facts), None)
        parts = []
        for function in (greatest, least, ends):
            with self.assertRaises(Contradictory) as caught:
                function(facts, question)
            parts.append(caught.exception.part)
        for part in parts:
            self.assertIsInstance(part, tuple)
            self.assertEqual(list(part), sorted(set(part)))
            self.same(fitting(Facts(facts.left, facts.right, [facts.fact(index) for index in part])), None)
            for index in part:
                others = Facts(facts.left, facts.right, [facts.fact(other) for other in part if other != index])
                self.fitted(others, fitting(others))


class Small(Ends):

    def test_example(self):
        facts = Facts(2, 2, [(("left", (0,)), 3, 3), (("left", (1,)), 2, 2), (("right", (0,)), 4, 4)])
        one = Question.at(2, 2, ("cell", 0, 0))
        self.same(ends(facts, one), (2, 3))
        self.same(self.has_ends(facts, one), (2, 3))
        self.same(greatest(Facts(2, 2, [(("left", (0,)), 1, 2)]), Question.at(2, 2, ("all",)))[::2], (None, (1, 0)))

    def test_by_position_and_by_name(self):
        facts = Facts(1, 1, [(("all",), 2, 5)])
        one = Question(((3,),))
        self.same(ends(question=one, facts=facts), (6, 15))
        self.same(greatest(question=one, facts=facts)[0], 15)
        self.same(least(question=one, facts=facts)[0], 6)
        self.same(fitting(facts=facts).left, 1)

    def test_all_tables_that_could_fit(self):
        given = dice(1)
        seen = {"contradictory": 0, "none": 0, "number": 0}
        for _ in range(300):
            left, right = given.choice(list(ALL_TABLES))
            facts = any_facts(given, left, right, given.randint(0, 5), 2)
            question = any_question(given, left, right, 4)
            numbers = [question(table) for table in ALL_TABLES[left, right]
                       if all(true(fact, table) for fact in facts.listed())]
            if not numbers:
                self.has_none(facts, question)
                seen["contradictory"] += 1
                continue
            self.fitted(facts, fitting(facts))
            low, high = self.has_ends(facts, question)
            for number, expected in ((low, min(numbers)), (high, max(numbers))):
                seen["none" if number is None else "number"] += 1
                if number is not None:
                    self.same(number, expected)
        self.assertGreater(min(seen.values()), 40, seen)

    def test_what_is_handed_in_stays(self):
        facts = Facts(2, 2, [(("left", (0,)), 3, 3)])
        question = Question(((1, 2), (-3, 0)))
        self.has_greatest(facts, question)
        self.same((facts.listed(), question.weights), ([(("left", (0,)), 3, 3)], ((1, 2), (-3, 0))))

    def test_equal_calls_return_equal_results(self):
        given = dice(2)
        for _ in range(30):
            facts = true_facts(given, 3, 3, 6, 4)
            question = any_question(given, 3, 3, 4)
            again = Facts(3, 3, facts.listed())
            for function in (greatest, least):
                number, table, shown = function(facts, question)
                self.assertEqual((number, table, shown), function(again, Question(question.weights)))
            self.assertEqual(fitting(facts), fitting(again))


class Edges(Ends):

    def test_no_facts(self):
        for left, right in ((1, 1), (8, 8), (1, 8), (3, 2)):
            facts = Facts(left, right)
            self.fitted(facts, fitting(facts))
            zero = Question(((0,) * right,) * left)
            self.same(self.has_ends(facts, zero), (0, 0))
            self.same(greatest(facts, zero)[2], ())
            last = Question.at(left, right, ("cell", left - 1, right - 1))
            self.same(self.has_ends(facts, last), (0, None))
            self.same(greatest(facts, last)[2], (left - 1, right - 1))
            self.same(self.has_ends(facts, -last), (None, 0))
            self.same(least(facts, -last)[2], (left - 1, right - 1))

    def test_facts_without_a_high(self):
        facts = Facts(2, 2, [(("left", (0,)), 3, None), (("right", (1,)), 2, None), (("cell", 1, 1), 1, None)])
        self.same(self.has_ends(facts, Question.at(2, 2, ("all",))), (4, None))
        self.same(self.has_ends(facts, Question(((2, 3), (0, 1)))), (8, None))
        self.same(self.has_ends(facts, Question(((-2, -3), (0, -1)))), (None, -8))
        self.same(least(facts, Question(((0, 0), (-1, -2))))[2], (1, 0))

    def test_first_free_cell(self):
        facts = Facts(2, 3, [(("left", (0,)), 0, 3), (("right", (1,)), 0, 3), (("cell", 1, 0), 5, None)])
        self.same(greatest(facts, Question(((1, 1, 1), (1, 1, 1))))[::2], (None, (1, 0)))
        self.same(greatest(facts, Question(((1, 1, 1), (-1, 1, 1))))[::2], (None, (1, 2)))
        self.same(greatest(facts, Question(((1, 1, 1), (-1, 1, 0))))[0], 1)
        self.same(least(facts, Question(((1, 1, 1), (1, 1, -1))))[::2], (None, (1, 2)))
        self.same(least(facts, Question(((1, 1, 1), (1, -1, 1))))[0], 2)

    def test_a_high_of_zero(self):
        facts = Facts(2, 2, [(("all",), 4, 4), (("left", (0,)), 0, 0), (("right", (1,)), 0, 0)])
        self.same(self.has_ends(facts, Question(((5, 6), (7, 8)))), (28, 28))
        self.same(self.has_ends(Facts(2, 2, [(("all",), 0, 0)]), Question(((5, 6), (7, -8)))), (0, 0))
        self.same(self.has_ends(Facts(2, 2, [(("cell", 0, 0), 0, 0)]), Question(((5, 0), (0, 0)))), (0, 0))

    def test_lows_beyond_what_others_allow(self):
        zero = Question(((0, 0), (0, 0)))
        for given, part in (([(("left", (0,)), 3, None), (("right", (1,)), 0, 9), (("all",), 0, 2)], (0, 2)),
                            ([(("cell", 0, 1), 1, None), (("cell", 0, 1), 0, 0)], (0, 1)),
                            ([(("all",), 9, None), (("left", (0,)), 0, 5), (("right", (0,)), 0, 9),
                              (("left", (1,)), 0, 3)], (0, 1, 3)),
                            ([(("left", (0,)), 3, 3), (("right", (0,)), 0, 1), (("right", (1,)), 0, 1)], (0, 1, 2))):
            facts = Facts(2, 2, given)
            self.has_none(facts, zero)
            for function in (greatest, least, ends):
                self.fails(Contradictory, part, function, facts, zero)
                # A cell without an end makes no difference if no table fits.
                self.fails(Contradictory, part, function, facts, Question(((9, -9), (9, -9))))
            self.same(least_part(facts), part)

    def test_the_same_where_several_times(self):
        for where in (("all",), ("left", (0,)), ("left", (0, 1)), ("right", (1,)), ("right", (0, 1)), ("cell", 0, 1)):
            facts = Facts(2, 2, [(where, 1, 9), (where, 3, None), (where, 0, 5), (where, 2, 7)])
            self.same(self.has_ends(facts, Question.at(2, 2, where)), (3, 5))
            self.has_none(facts.with_fact((where, 6, None)), Question.at(2, 2, where))

    def test_all_values_as_sets_of_both_columns(self):
        facts = Facts(2, 3, [(("left", (0, 1)), 0, 7), (("right", (0, 1, 2)), 2, 8), (("all",), 1, 9)])
        self.same(self.has_ends(facts, Question.at(2, 3, ("all",))), (2, 7))

    def test_sizes_one_and_eight(self):
        for left, right in ((1, 8), (8, 1)):
            side, values = ("right", right) if left == 1 else ("left", left)
            facts = Facts(left, right, [(("all",), 10, 10)] + [((side, (value,)), 0, 2) for value in range(values)])
            weights = tuple(range(1, 9))
            question = Question((weights,) if left == 1 else tuple((weight,) for weight in weights))
            self.same(self.has_ends(facts, question), (30, 60))
        self.same(self.has_ends(Facts(1, 1, [(("cell", 0, 0), 2, 5), (("left", (0,)), 3, 9)]), Question(((-7,),))),
                  (-35, -21))

    def test_sixty_digits(self):
        high = LONG + 10 ** 58
        facts = Facts(2, 2, [(("left", (0,)), LONG, high), (("right", (0,)), 0, 5), (("left", (1,)), 0, 0)])
        self.same(self.has_ends(facts, Question(((LONG, -LONG), (0, 0)))), (-LONG * high, 5 * LONG - LONG * (LONG - 5)))


class Great(Ends):

    def test_eight_by_eight_with_forty_facts(self):
        given = dice(3)
        numbers = 0
        for most, weight in ((9, 3), (10 ** 50, 10 ** 20), (10 ** 50, 1), (3, 10 ** 20), (10 ** 59, 10 ** 59)):
            for _ in range(8):
                facts = true_facts(given, 8, 8, 40, most)
                low, high = self.has_ends(facts, any_question(given, 8, 8, weight))
                numbers += (low is not None) + (high is not None)
        self.assertGreater(numbers, 20)

    def test_limits_of_all_lengths(self):
        given = dice(4)
        for _ in range(20):
            found = [(where, 0, 10 ** given.randint(0, 50)) for where in wheres(given, 8, 8, 39)]
            facts = Facts(8, 8, [*found, (("all",), 0, 10 ** 50)])
            question = Question(tuple(tuple(given.choice([1, -1]) * 2 ** given.randint(0, 66) for _ in range(8))
                                      for _ in range(8)))
            self.has_ends(facts, question)

    def test_all_rows_known_on_both_sides(self):
        given = dice(5)
        for _ in range(20):
            facts = Facts(8, 8, [((side, (value,)), 1, 1) for side in ("left", "right") for value in range(8)])
            self.has_ends(facts, any_question(given, 8, 8, 20))

    def test_great_facts_that_contradict_each_other(self):
        given = dice(6)
        for most in (9, 10 ** 50):
            for _ in range(5):
                facts = any_facts(given, 8, 8, 40, most)
                self.has_none(facts, any_question(given, 8, 8, 5))


class Wrong(Case):

    def test_no_question_of_these_sizes(self):
        good = Facts(2, 3, [(("all",), 0, 3)])
        bad = Facts(2, 3, [(("all",), 0, 3), (("left", (0,)), 4, None)])
        for facts in (good, bad):
            for value in [*ODD, 0, ((0, 0, 0), (0, 0, 0)), Question(((0, 0), (0, 0), (0, 0))), Question(((0, 0),)),
                          Question(((0, 0, 0),)), Question(((0, 0, 0, 0),) * 2), facts, Table(((0, 0, 0), (0, 0, 0)))]:
                for function in (greatest, least, ends):
                    self.fails(InvalidQuestion, value, function, facts, value)

    def test_rows_are_as_the_samples_count_them(self):
        table = Table(((1, 2), (4, 8)))
        self.same([rows(table, where) for where in (("all",), ("left", (1,)), ("right", (0,)), ("cell", 0, 1))],
                  [15, 12, 5, 2])
