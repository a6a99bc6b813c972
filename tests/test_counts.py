"""Points 3 (f), 13 and stage 12: counts that make a question narrow, facts that are enough."""

import itertools

from surecounts.counts import fewest, is_enough, least_facts, wide
from surecounts.ends import ends, fitting
from surecounts.errors import (Contradictory, InvalidFact, InvalidMembers, InvalidNumber, InvalidQuestion,
                               LimitExceeded)
from surecounts.facts import Facts, is_fact
from surecounts.questions import Question
from surecounts.tables import Table
from tests.cases import LONG, ODD, Case
from tests.samples import any_question, dice, rows, tables, true, true_facts, wheres

SIX = Facts(2, 2, [(("all",), 6, 6)])
CORNER = Question.at(2, 2, ("cell", 0, 0))
LEFT = ("left", (0,))
CELL = ("cell", 0, 0)
CLASH = Facts(2, 2, [(("cell", 0, 0), 0, 9), (("all",), 0, 1), (("left", (1,)), 2, 3)])


def may_stand(facts, added):
    """Whether facts with these wheres behind them are facts."""
    try:
        Facts(facts.left, facts.right, facts.listed() + [(where, 0, None) for where in added])
    except InvalidFact:
        return False
    return True


def samples(seed, many):
    """Little facts with a high over all cells, all tables that fit, a question, some wheres and a width."""
    given = dice(seed)
    found = 0
    while found < many:
        facts = true_facts(given, 2, 2, given.randint(0, 3), 2)
        total = given.randint(1, 4)
        facts = facts.with_fact((("all",), given.randint(0, total), total))
        added = wheres(given, 2, 2, given.randint(0, 3))
        fitted = [table for table in tables(2, 2, total) if table in facts]
        if may_stand(facts, added) and fitted:
            found += 1
            yield (facts, fitted, any_question(given, 2, 2, 3), added, given.randint(0, 4))


def looked(fitted, question, added, width):
    """All numbers up to the first that leave a question wider, and whether these do; by all tables that fit."""
    told = {}
    for table in fitted:
        told.setdefault(tuple(rows(table, where) for where in added), []).append(question(table))
    seen = []
    for numbers in sorted(told):
        seen.append(numbers)
        if max(told[numbers]) - min(told[numbers]) > width:
            return (seen, True)
    return (seen, False)


def subsets(many):
    """All ascending tuples of indexes, by their number and then ascending."""
    for size in range(many + 1):
        yield from itertools.combinations(range(many), size)


class Narrow(Case):

    def wider(self, facts, question, added, width, numbers, table, other):
        """Both tables fit, have these numbers, and are further apart than width."""
        for one in (table, other):
            self.assertIsInstance(one, Table)
            self.assertTrue(all(true(fact, one) for fact in facts.listed()))
            self.same(tuple(rows(one, where) for where in added), numbers)
        self.assertGreater(abs(question(table) - question(other)), width)

    def test_example(self):
        self.same((wide(SIX, CORNER, [LEFT], 3)[0], fewest(SIX, CORNER, [LEFT, CELL], 0)[0],
                   least_facts(SIX, [CORNER])[0]), ((4,), (1,), (0,)))
        self.same(wide(most=5, width=3, wheres=[LEFT], question=CORNER, facts=SIX)[0], (4,))
        self.same(fewest(most=99, width=0, wheres=[LEFT, CELL], question=CORNER, facts=SIX)[0], (1,))
        self.same(is_enough(kept=(0,), questions=[CORNER], facts=SIX), None)
        self.same(least_facts(most=2, questions=[CORNER], facts=SIX)[0], (0,))

    def test_wide_over_all_tables(self):
        narrow = 0
        for facts, fitted, question, added, width in samples(121, 150):
            seen, is_wide = looked(fitted, question, added, width)
            found = wide(facts, question, added, width)
            if is_wide:
                self.same(found[0], seen[-1])
                self.wider(facts, question, added, width, *found)
            else:
                narrow += 1
                self.same(found, None)
            self.same(wide(facts, question, added, width) is None, not is_wide)
        self.assertTrue(30 < narrow < 120)

    def test_wide_up_to_the_limit(self):
        for facts, fitted, question, added, width in samples(122, 80):
            seen, is_wide = looked(fitted, question, added, width)
            self.same(wide(facts, question, added, width, len(seen)) is None, not is_wide)
            if len(seen) > 1:
                self.fails(LimitExceeded, len(seen) - 1, wide, facts, question, added, width, len(seen) - 1)
                self.fails(LimitExceeded, 1, wide, facts, question, added, width, 1)

    def test_fewest_over_all_tables(self):
        nothing = 0
        for facts, fitted, question, added, width in samples(123, 120):
            looks = 0
            chosen = None
            expected = []
            for indexes in subsets(len(added)):
                seen, is_wide = looked(fitted, question, [added[index] for index in indexes], width)
                looks += len(seen)
                if not is_wide:
                    chosen = indexes
                    break
                expected.append((indexes, seen[-1]))
            found = fewest(facts, question, added, width)
            if chosen is None:
                nothing += 1
                self.same(found, None)
            else:
                self.same(found[0], chosen)
                self.same([row[:2] for row in found[1]], [row for row in expected if len(row[0]) < len(chosen)])
                for indexes, numbers, table, other in found[1]:
                    self.wider(facts, question, [added[index] for index in indexes], width, numbers, table, other)
            self.same(fewest(facts, question, added, width, looks) is None, chosen is None)
            if looks > 1:
                self.fails(LimitExceeded, looks - 1, fewest, facts, question, added, width, looks - 1)
        self.assertTrue(10 < nothing < 110)

    def test_counts_of_any_table_leave_the_question_narrow(self):
        for facts, fitted, question, added, width in samples(124, 80):
            found = fewest(facts, question, added, width)
            if found is None:
                continue
            for table in fitted:
                told = facts
                for index in found[0]:
                    number = rows(table, added[index])
                    told = told.with_fact((added[index], number, number))
                low, high = ends(told, question)
                self.assertTrue(low <= question(table) <= high <= low + width)

    def test_no_wheres(self):
        self.same(wide(SIX, CORNER, [], 6), None)
        self.same(wide(SIX, CORNER, [], 6, 1), None)
        numbers, table, other = wide(SIX, CORNER, [], 5, 1)
        self.wider(SIX, CORNER, [], 5, numbers, table, other)
        self.same(numbers, ())
        self.same(fewest(SIX, CORNER, [], 6, 1), ((), []))
        self.same(fewest(SIX, CORNER, [], 5, 1), None)
        self.same(wide(Facts(2, 2), CORNER, [], LONG)[0], ())

    def test_the_same_where_twice_and_that_of_a_fact(self):
        facts = SIX.with_fact((LEFT, 2, 5))
        self.same(wide(facts, CORNER, [LEFT, LEFT, ("all",)], 3)[0], (4, 4, 6))
        self.same(fewest(facts, CORNER, [("all",), LEFT, CELL, CELL], 0, 99)[0], (2,))

    def test_counts_without_a_greatest_number(self):
        free = Facts(2, 2)
        for width in (0, 3, 40):
            self.same(wide(free, CORNER, [LEFT], width)[0], (width + 1,))
            self.same(wide(free, CORNER, [LEFT], width, width + 2)[0], (width + 1,))
            self.fails(LimitExceeded, width + 1, wide, free, CORNER, [LEFT], width, width + 1)
        self.fails(LimitExceeded, 500, wide, free, CORNER, [CELL], 0)
        self.fails(LimitExceeded, 5000, wide, free, CORNER, [CELL], 0, 5000)
        self.fails(LimitExceeded, 500, wide, free, CORNER, [CELL, LEFT], 0)
        found = fewest(free, CORNER, [("all",), LEFT], 2)
        self.same(found, None)
        # () is wide at once, (0,) and (1,) from 3 rows on, (0, 1) from (3, 3) on: 1 + 4 + 4 + 1 + 2 + 3 + 4.
        self.same(fewest(free, CORNER, [("all",), LEFT], 2, 19), None)
        self.fails(LimitExceeded, 18, fewest, free, CORNER, [("all",), LEFT], 2, 18)

    def test_a_question_without_an_end(self):
        free = Facts(2, 2, [(LEFT, 1, 4)])
        for weight in (1, -1, 7, -LONG):
            question = Question(((3, 0), (weight, 0)))
            for width in (0, 5, LONG):
                numbers, table, other = wide(free, question, [LEFT], width)
                self.same(numbers, (1,))
                self.wider(free, question, [LEFT], width, numbers, table, other)
        self.same(fewest(free, Question(((0, 0), (7, 0))), [LEFT, ("left", (1,))], 0), None)
        both = Question(((0, 1), (0, -1)))
        numbers, table, other = wide(Facts(2, 2), both, [("right", (0,)), CELL], 5)
        self.wider(Facts(2, 2), both, [("right", (0,)), CELL], 5, numbers, table, other)
        self.same(numbers, (0, 0))

    def test_forty_facts(self):
        listed = [(("all",), 0, 9)] * 38
        question = Question(((1, 2, 0), (0, 1, 1), (3, 0, 0)))
        full = Facts(3, 3, [*listed, (LEFT, 0, 3), (CELL, 0, 2)])
        self.same(wide(full, question, [], 99), None)
        self.same(len(least_facts(full, [question])[0]) < 40, True)
        self.fails(InvalidFact, None, wide, full, question, [CELL], 0)
        self.same(wide(Facts(3, 3, listed), question, [LEFT, CELL], 99), None)
        self.fails(InvalidFact, None, wide, Facts(3, 3, listed), question, [LEFT, CELL, CELL], 99)
        self.same(wide(Facts(3, 3), question, [("all",)] * 40, 0)[0], (1,) * 40)

    def test_great_numbers(self):
        facts = Facts(2, 2, [(("all",), LONG, LONG), (LEFT, LONG - 3, LONG)])
        self.same(wide(facts, CORNER, [LEFT], LONG - 1)[0], (LONG,))
        self.same(wide(facts, CORNER, [LEFT], LONG), None)
        self.same(fewest(facts, CORNER, [LEFT, CELL], LONG)[0], ())
        self.fails(LimitExceeded, 7, wide, facts, CORNER, [CELL], 0, 7)

    def test_lists_are_new(self):
        added = [LEFT, CELL]
        chosen, wider = fewest(SIX, CORNER, added, 0)
        wider.append(None)
        self.same(added, [LEFT, CELL])
        self.same(len(fewest(SIX, CORNER, added, 0)[1]), len(wider) - 1)
        questions = [CORNER]
        kept, beyond = least_facts(SIX, questions)
        beyond.clear()
        self.same(len(least_facts(SIX, questions)[1]), 1)
        self.same(len(questions), 1)


class Enough(Case):

    def beyond(self, facts, questions, kept, index, table):
        """The table fits the kept facts, and its number is beyond an end of the question with this index."""
        self.assertTrue(all(true(facts.fact(fact), table) for fact in kept))
        low, high = ends(facts, questions[index])
        number = questions[index](table)
        self.assertTrue((low is not None and number < low) or (high is not None and number > high))

    def samples(self, seed, many):
        given = dice(seed)
        for _ in range(many):
            left, right = given.randint(1, 3), given.randint(1, 3)
            facts = true_facts(given, left, right, given.randint(0, 6), given.choice([2, 10 ** 40]))
            yield (facts, [any_question(given, left, right, given.choice([1, 9])) for _ in range(given.randint(0, 3))])

    def some(self, facts, kept):
        return Facts(facts.left, facts.right, [facts.fact(index) for index in kept])

    def test_is_enough(self):
        enough = 0
        for facts, questions in self.samples(125, 60):
            expected = [ends(facts, question) for question in questions]
            for kept in subsets(len(facts)):
                found = is_enough(facts, questions, kept)
                if [ends(self.some(facts, kept), question) for question in questions] == expected:
                    enough += 1
                    self.same(found, None)
                else:
                    self.assertIsInstance(found, tuple)
                    self.beyond(facts, questions, kept, *found)
        self.assertGreater(enough, 100)

    def test_least_facts(self):
        for facts, questions in self.samples(126, 60):
            tried = []
            for kept in subsets(len(facts)):
                tried.append(kept)
                if is_enough(facts, questions, kept) is None:
                    break
            found, beyond = least_facts(facts, questions)
            self.same(found, tried[-1])
            self.same([row[0] for row in beyond], [kept for kept in tried if len(kept) < len(found)])
            for row in beyond:
                self.same((row.__class__, len(row)), (tuple, 3))
                self.beyond(facts, questions, *row)
            self.same(least_facts(facts, questions, len(tried))[0], found)
            if len(tried) > 1:
                self.fails(LimitExceeded, len(tried) - 1, least_facts, facts, questions, len(tried) - 1)
                self.fails(LimitExceeded, 1, least_facts, facts, questions, 1)

    def test_no_questions_and_no_facts(self):
        self.same(is_enough(SIX, [], ()), None)
        self.same(least_facts(SIX, [], 1), ((), []))
        self.same(least_facts(Facts(2, 2), [CORNER], 1), ((), []))
        self.same(is_enough(Facts(2, 2), [CORNER, -CORNER], ()), None)
        self.fails(Contradictory, (1, 2), is_enough, CLASH, [], ())
        self.fails(Contradictory, (1, 2), least_facts, CLASH, [])

    def test_all_facts_are_tried_too(self):
        facts = Facts(2, 2, [(LEFT, 1, 4), (("left", (1,)), 2, 6)])
        question = Question(((1, 1), (1, 1)))
        self.same(least_facts(facts, [question], 4)[0], (0, 1))
        self.fails(LimitExceeded, 3, least_facts, facts, [question], 3)
        self.same([row[0] for row in least_facts(facts, [question])[1]], [(), (0,), (1,)])

    def test_a_table_far_beyond(self):
        facts = Facts(2, 2, [(("all",), 0, LONG)])
        question = Question(((7, 0), (-5, 0)))
        index, table = is_enough(facts, [Question(((0, 0), (0, 0))), question], ())
        self.same(index, 1)
        self.beyond(facts, [question, question], (), 1, table)
        index, table = is_enough(facts, [Question(((0, 0), (-5, 0)))], ())
        self.assertLess(Question(((0, 0), (-5, 0)))(table), -5 * LONG)

    def test_forty_facts(self):
        facts = Facts(8, 8, [(("cell", at // 8, at % 8), 0, 3) for at in range(40)])
        question = Question.at(8, 8, ("cell", 4, 7))
        self.same(least_facts(facts, [question], 41)[0], (39,))
        self.fails(LimitExceeded, 40, least_facts, facts, [question], 40)
        kept, beyond = least_facts(facts, [question, Question.at(8, 8, CELL)], 5000)
        self.same((kept, len(beyond)), ((0, 39), 41))
        for row in beyond:
            self.beyond(facts, [question, Question.at(8, 8, CELL)], *row)
        self.fails(LimitExceeded, 5000, least_facts, facts, [Question.at(8, 8, ("left", (0,)))], 5000)


class Wrong(Case):

    def calls(self):
        return (wide, fewest)

    def test_questions(self):
        for value in [*ODD, 0, CELL, SIX, Question(((1, 2, 3), (1, 2, 3))), Question(((1,),)), ((1, 0), (0, 0))]:
            for function in self.calls():
                self.fails(InvalidQuestion, value, function, SIX, value, None, None, None)
                self.fails(InvalidQuestion, value, function, CLASH, value, [LEFT], 0)

    def test_wheres(self):
        for value in [value for value in ODD if not isinstance(value, list)] + [(LEFT,), (), LEFT]:
            for function in self.calls():
                self.fails(InvalidFact, None, function, SIX, CORNER, value, None, None)
                self.fails(InvalidFact, None, function, CLASH, CORNER, value, 0)
        for value in [*ODD, 0, list(LEFT), ("left", [0]), ("left", ()), ("left", (1, 0)), ("left", (0, 2)), ("cell", 0),
                      ("cell", 0, 2), ("cell", 0, True), ("left", (False,)), (LEFT, 0, None), "all"]:
            if is_fact(2, 2, (value, 0, None)):
                continue
            for function in self.calls():
                self.fails(InvalidFact, 1, function, SIX, CORNER, [value], None, None)
                self.fails(InvalidFact, 3, function, SIX, CORNER, [LEFT, CELL, value, value], -1)
                self.fails(InvalidFact, 3, function, CLASH, CORNER, [value], 0)
        three = Facts(3, 3, [(("all",), 0, 9), (("right", (0, 1)), 0, 9)])
        question = Question.at(3, 3, CELL)
        for function in self.calls():
            self.fails(InvalidFact, (1, 3), function, three, question, [CELL, ("right", (1, 2))], None)
            self.fails(InvalidFact, (1, 5), function, three, question,
                       [("left", (0, 1)), ("left", (0,)), ("left", (1, 2)), ("right", (1, 2))], 0)
            self.fails(InvalidFact, None, function, three, question, [CELL] * 38 + [None], 0)

    def test_numbers(self):
        bad = [value for value in ODD if value != 0] + [-1, -LONG, 1.0, "5"]
        for function in self.calls():
            for value in [*bad, False, True]:
                self.fails(InvalidNumber, value, function, SIX, CORNER, [LEFT], value, None)
                self.fails(InvalidNumber, value, function, CLASH, CORNER, [], value)
            for value in [*bad, 0, False, True, 5001, LONG]:
                self.fails(InvalidNumber, value, function, SIX, CORNER, [LEFT], 0, value)
                self.fails(InvalidNumber, value, function, CLASH, CORNER, [LEFT], 0, value)
            self.fails(Contradictory, (1, 2), function, CLASH, CORNER, [LEFT], 0, 5000)
            self.fails(Contradictory, (1, 2), function, CLASH, CORNER, [LEFT], 0, 1)
            self.fails(Contradictory, (1, 2), function, CLASH, CORNER, [], 0)

    def test_lists_of_questions(self):
        other = Question(((1,),))
        for value in [value for value in ODD if not isinstance(value, list)] + [(CORNER,), CORNER]:
            self.fails(InvalidQuestion, value, is_enough, SIX, value, None)
            self.fails(InvalidQuestion, value, least_facts, CLASH, value, None)
        for value in [*ODD, other, CELL, SIX]:
            for facts in (SIX, CLASH):
                self.fails(InvalidQuestion, value, is_enough, facts, [value], None)
                self.fails(InvalidQuestion, value, is_enough, facts, [CORNER, value, other], (0,))
                self.fails(InvalidQuestion, value, least_facts, facts, [CORNER, value, other], None)

    def test_kept(self):
        for value in [*[value for value in ODD if value != ()], 0, [0], (3,), (0, 0), (1, 0), (-1,), (0, True), (False,),
                      (0, 1.0), (LONG,), (0, (1,))]:
            self.fails(InvalidMembers, value, is_enough, CLASH, [CORNER], value)
        self.fails(InvalidMembers, (1,), is_enough, SIX, [CORNER], (1,))
        self.fails(Contradictory, (1, 2), is_enough, CLASH, [CORNER], ())
        self.fails(Contradictory, (1, 2), is_enough, CLASH, [CORNER], (0, 1, 2))

    def test_most(self):
        for value in [value for value in ODD if value != 0] + [0, -1, 5001, LONG, True, False, 1.0]:
            self.fails(InvalidNumber, value, least_facts, CLASH, [CORNER], value)
        self.fails(Contradictory, (1, 2), least_facts, CLASH, [CORNER], 1)
        self.same(least_facts(SIX, [CORNER], 5000)[0], (0,))

    def test_fitting_is_needed_only_of_all_facts_together(self):
        self.assertIsNotNone(fitting(CLASH.without(1)))
        self.same(is_enough(CLASH.without(1), [CORNER], (0,)), None)
