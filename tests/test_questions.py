"""Point 6 and stage 3: questions, a weight for each cell."""

import itertools

from surecounts.errors import InvalidFact, InvalidNumber, InvalidQuestion, InvalidTable
from surecounts.questions import Question
from surecounts.tables import Table
from surecounts.wheres import cells
from tests.cases import LONG, ODD, Agreeing, Case
from tests.test_wheres import NO_WHERES, WHERES

NO_WEIGHTS = [
    *ODD, 5, ((),), ((), ()), ((1,), ()), ((1, 0), (1,)), ((1,), (1, 0)), ((True,),), ((0, 1), (False, 1)), ((None,),),
    (("1",),), [(1,)], ([1],), ((1, 0), [1, 0]), ((1,), 1), (1, 0), "12", ("12",), ((0,),) * 9, ((0,) * 9,),
    ((0,) * 9,) * 9, (((0,),),), ((Agreeing(),),), (Agreeing(),),
]
NO_LINES = [
    *ODD, 5, (1, True), (1, "1"), (1, None), [1, 2], (0,) * 9, ((1,),), "12", (Agreeing(),), (1, (2,)),
]


class Making(Case):

    def test_example(self):
        one = Question.at(2, 2, ("cell", 0, 0))
        self.same((one.weights, (one * 3 - Question.between((1, 2), (0, 1))).weights),
                  (((1, 0), (0, 0)), ((3, -1), (0, -2))))

    def test_any_integers_of_all_sizes(self):
        for left in range(1, 9):
            for right in range(1, 9):
                weights = tuple(tuple(LONG * (a - b) for b in range(right)) for a in range(left))
                question = Question(weights)
                self.same((question.weights, question.left, question.right), (weights, left, right))
        self.same(Question(weights=((-1,),)).weights, ((-1,),))

    def test_weights_that_are_none(self):
        for value in [*NO_WEIGHTS, Table(((1,),)), Question(((1,),))]:
            self.fails(InvalidQuestion, value, Question, value)

    def test_at(self):
        for where in WHERES:
            there = cells(3, 2, where)
            expected = tuple(tuple(int((a, b) in there) for b in range(2)) for a in range(3))
            self.same(Question.at(3, 2, where).weights, expected)
            self.same(Question.at(where=where, right=2, left=3).weights, expected)

    def test_errors_of_at_and_their_order(self):
        for size in [0, 9, -1, LONG, *ODD]:
            self.fails(InvalidNumber, size, Question.at, size, 0, None)
            self.fails(InvalidNumber, size, Question.at, 3, size, None)
        for where in NO_WHERES:
            self.fails(InvalidFact, where, Question.at, 3, 2, where)

    def test_between(self):
        self.same(Question.between((1, -2, 0), (3, LONG)).weights, ((3, LONG), (-6, -2 * LONG), (0, 0)))
        self.same(Question.between(rights=(5,), lefts=(2,)).weights, ((10,),))
        self.same(Question.between((1,) * 8, (2,) * 8).weights, ((2,) * 8,) * 8)

    def test_errors_of_between_and_their_order(self):
        for value in NO_LINES:
            self.fails(InvalidQuestion, value, Question.between, value, None)
            self.fails(InvalidQuestion, value, Question.between, (1, 2), value)

    def test_questions_never_change(self):
        question = Question(((1, 2),))
        for name in ("weights", "left", "right"):
            with self.assertRaises(AttributeError):
                setattr(question, name, 7)


class Numbers(Case):

    def test_weight(self):
        question = Question(((1, 0, -5), (2, 1, 4)))
        for left in range(2):
            for right in range(3):
                self.same(question.weight(left, right), question.weights[left][right])
                self.same(question.weight(right=right, left=left), question.weights[left][right])
        for value in [-1, 3, LONG, *ODD]:
            self.fails(InvalidNumber, value, question.weight, value, 9)
            self.fails(InvalidNumber, value, question.weight, 1, value)
        self.fails(InvalidNumber, 2, question.weight, 2, 2)
        self.fails(InvalidNumber, 3, question.weight, 1, 3)

    def test_number_is_the_sum_over_the_rows(self):
        question = Question(((1, 0, -5), (2, LONG, 4)))
        for counts in itertools.product(range(3), repeat=6):
            table = Table((counts[:3], counts[3:]))
            self.assertEqual(question(table), sum(question.weight(*row) for row in table.each()))
        self.same(question(table=Table(((1, 9, 0), (LONG, 1, 2)))), 9 + 3 * LONG)

    def test_number_of_a_selection_and_of_a_join(self):
        table = Table(((3, 1), (0, 2), (4, 0)))
        for where in WHERES:
            rows = [row for row in table.each() if row in cells(3, 2, where)]
            self.same(Question.at(3, 2, where)(table), len(rows))
        ways = sum((5, 0, 1)[left] * (2, 7)[right] for left, right in table.each())
        self.same(Question.between((5, 0, 1), (2, 7))(table), ways)

    def test_what_is_no_table_of_these_sizes(self):
        question = Question(((1, 0, -5), (2, 1, 4)))
        for value in [*ODD, ((0, 0, 0), (0, 0, 0)), Table(((0, 0), (0, 0), (0, 0))), Table(((0, 0), (0, 0))),
                      Table(((0, 0, 0),)), question]:
            self.fails(InvalidTable, value, question, value)


class Operators(Case):

    def setUp(self):
        self.one = Question(((1, 0, -5), (2, LONG, 4)))
        self.other = Question(((1, 1, 1), (-2, -LONG, 0)))

    def tearDown(self):
        self.same((self.one.weights, self.other.weights),
                  (((1, 0, -5), (2, LONG, 4)), ((1, 1, 1), (-2, -LONG, 0))))

    def test_plus_minus_times_and_negation(self):
        self.same((self.one + self.other).weights, ((2, 1, -4), (0, 0, 4)))
        self.same((self.one - self.other).weights, ((0, -1, -6), (4, 2 * LONG, 4)))
        self.same((self.one * 3).weights, ((3, 0, -15), (6, 3 * LONG, 12)))
        self.same((self.one * -1).weights, ((-1, 0, 5), (-2, -LONG, -4)))
        self.same((self.one * 0).weights, ((0, 0, 0), (0, 0, 0)))
        self.same((-self.one).weights, ((-1, 0, 5), (-2, -LONG, -4)))
        self.same(((self.one + self.other) - self.other == self.one, -(-self.one) == self.one), (True, True))

    def test_numbers_go_with_the_operators(self):
        table = Table(((1, 2, 3), (4, 5, 6)))
        one, other = self.one(table), self.other(table)
        self.same(((self.one + self.other)(table), (self.one - self.other)(table), (self.one * -7)(table),
                   (-self.one)(table), self.one.turned()(table.turned())),
                  (one + other, one - other, one * -7, -one, one))

    def test_turned(self):
        self.same(self.one.turned().weights, ((1, 2), (0, LONG), (-5, 4)))
        self.same((self.one.turned().left, self.one.turned().right), (3, 2))
        self.assertEqual(self.one.turned().turned(), self.one)

    def test_no_question_of_these_sizes(self):
        for value in [*ODD, 0, 1, self.one.weights, self.one.turned(), Question(((1,),)), Question(((1, 1, 1),)),
                      Question(((1, 1), (1, 1))), Table(((0, 0, 0), (0, 0, 0)))]:
            self.fails(InvalidQuestion, value, lambda: self.one + value)
            self.fails(InvalidQuestion, value, lambda: self.one - value)

    def test_no_factor(self):
        for value in [*ODD, self.one]:
            self.fails(InvalidNumber, value, lambda: self.one * value)

    def test_equal(self):
        self.same(self.one == Question(((1, 0, -5), (2, LONG, 4))), True)
        self.same(self.one != Question(((1, 0, -5), (2, LONG, 4))), False)
        self.same(self.one == self.other, False)
        self.same(Question(((0, 0),)) == Question(((0,), (0,))), False)
        for value in [*ODD, self.one.weights, Table(((1, 0, 5), (2, LONG, 4)))]:
            self.same(self.one == value, False)
            self.same(self.one != value, True)
        table = Table(((1, 0),))
        self.same((table == Question(((1, 0),)), Question(((1, 0),)) == table), (False, False))
