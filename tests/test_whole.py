"""Promises over the whole program: one thing told in several ways, lists that are told and handed in, kinds."""

from surecounts.bench import Bench
from surecounts.books import Book
from surecounts.chains import Chain
from surecounts.console import Console
from surecounts.contradictions import contradiction, is_contradiction, least_part
from surecounts.counts import fewest, is_enough, least_facts, wide
from surecounts.ends import ends, fitting, greatest
from surecounts.errors import Contradictory, InvalidFact, MissingRows
from surecounts.facts import Facts
from surecounts.joins import greatest_along, greatest_join, tops
from surecounts.journal import read_journal, write_journal
from surecounts.language import read_question, write_question
from surecounts.plans import best, is_plan, is_report, need, plans, report, results, worst
from surecounts.questions import Question
from surecounts.runs import surprise, walk, wrong
from surecounts.spreads import Spread
from surecounts.stars import Star
from surecounts.tables import Table
from surecounts.texts import read_facts, read_table, write_facts, write_table
from surecounts.wheres import cells
from tests.cases import LONG, Agreeing, Case
from tests.samples import any_facts, any_question, any_table, dice, true, true_facts
from tests.test_books import any_change, changed, do, state
from tests.test_console import command

SQUARE = Table(((1, 2), (0, 3)))
FACTS = Facts(2, 2, [(("all",), 4, 6), (("left", (0,)), 0, 2)])
CORNER = Question.at(2, 2, ("cell", 0, 0))


class Ways(Case):

    def test_texts_journals_and_consoles_lead_to_the_same(self):
        given = dice(171)
        for _ in range(25):
            facts = true_facts(given, given.randint(1, 3), given.randint(1, 3), given.randint(0, 6),
                               given.choice([4, 10 ** 50]))
            text = write_facts(facts)
            book = Book(read_facts(text))
            console = Console()
            console.run("keep kept " + text.replace("\n", "; "))
            while len(book) < 8:
                change = any_change(given, book, 4)
                if do(book, change):
                    self.same(console.run(command("kept", change)), "ok")
                elif len(book) > 2 and given.random() < 0.3:
                    book.undo()
                    console.run("undo kept")
            read, many, why = read_journal(facts, write_journal(book))
            self.same((many, why), (len(book), "end"))
            led = console.bench.book("kept")
            self.same((read == book, led == book, state(led)), (True, True, state(book)))
            self.same(console.run("facts kept"), write_facts(book.facts).replace("\n", "; "))
            self.same(read_facts(write_facts(book.facts)) == book.facts, True)
            question = any_question(given, facts.left, facts.right, 9)
            self.same(read_question(facts.left, facts.right, write_question(question)) == question, True)
            expected = " ".join("-" if end is None else str(end) for end in ends(book.facts, question))
            self.same(console.run(f"ends kept {write_question(question)}"), expected)
            self.same(console.run("part " + console.run("facts kept")), "-")
            self.same(least_part(read.facts), None)

    def test_tables_that_fit_are_written_and_read_back_and_fit(self):
        given = dice(172)
        for _ in range(40):
            facts = true_facts(given, given.randint(1, 4), given.randint(1, 4), given.randint(0, 8), LONG)
            for question in (any_question(given, facts.left, facts.right, 9) for _ in range(2)):
                table = greatest(facts, question)[1]
                self.same(read_table(write_table(table)) == table, True)
                self.assertIn(read_table(write_table(table)), read_facts(write_facts(facts)))

    def test_contradictions_told_in_several_ways(self):
        given = dice(173)
        clashes = 0
        for _ in range(60):
            facts = any_facts(given, 2, 3, given.randint(2, 8), 4)
            part = least_part(facts)
            word = "-" if part is None else ",".join(map(str, part))
            self.same(Console().run("part " + write_facts(facts).replace("\n", "; ")), word)
            if part is None:
                self.assertIn(fitting(facts), facts)
                continue
            clashes += 1
            self.same(is_contradiction(facts, contradiction(facts)), True)
            with self.assertRaises(Contradictory) as caught:
                Book(facts)
            told = caught.exception.part
            alone = Facts(2, 3, [facts.fact(index) for index in told])
            self.assertIsNone(fitting(alone))
            for index in range(len(told)):
                self.assertIsNotNone(fitting(alone.without(index)))
            for call in (lambda: Bench().keep("a", facts), lambda: read_journal(facts, ""),
                         lambda: wide(facts, Question(((0,) * 3,) * 2), [], 0),
                         lambda: ends(facts, Question(((0,) * 3,) * 2)),
                         lambda: Console().run("keep a " + write_facts(facts).replace("\n", "; "))):
                self.fails(Contradictory, told, call)
        self.assertGreater(clashes, 10)

    def test_changes_keep_the_ends_of_questions_about_other_cells(self):
        given = dice(174)
        for _ in range(40):
            facts = true_facts(given, 3, 3, given.randint(0, 6), 5)
            book = Book(facts)
            question = any_question(given, 3, 3, 4)
            left, right, many = given.randrange(3), given.randrange(3), given.randint(1, 5)
            before = ends(facts, question)
            book.insert(left, right, many)
            more = question.weight(left, right) * many
            self.same(ends(book.facts, question), tuple(None if end is None else end + more for end in before))
            book.remove(left, right, many)
            self.same(ends(book.facts, question), before)

    def test_runs_of_a_book_that_changes(self):
        given = dice(175)
        for _ in range(15):
            facts = true_facts(given, 2, 2, 4, 3)
            table = fitting(facts)
            book = Book(facts)
            ahead, behind = any_table(given, 3, 2, 3), any_table(given, 2, 2, 3)
            for _ in range(6):
                change = any_change(given, book, 3)
                if change[0] == "recount" or (change[0] == "remove" and table.count(*change[1:3]) < change[3]):
                    continue
                self.same(do(book, change), True)
                table = changed(table, *change[1:3], change[3] if change[0] == "insert" else -change[3])
                chain = Chain((ahead,), book.facts, (behind,))
                self.same(wrong(chain, table), [])
                for plan in plans(chain):
                    self.same(surprise(chain, plan, table), None)
                    number = worst(chain, plan)[0]
                    self.assertTrue(number is None or need(chain, plan, table) <= number)

    def test_counts_of_a_book_leave_a_question_narrow(self):
        given = dice(176)
        for _ in range(30):
            facts = true_facts(given, 2, 2, 3, 2).with_fact((("all",), 0, 8))
            table = fitting(facts)
            question = any_question(given, 2, 2, 3)
            added = [("left", (0,)), ("cell", 0, 1), ("right", (0,))]
            found = fewest(facts, question, added, 2, 5000)
            if found is None:
                continue
            book = Book(facts)
            for index in found[0]:
                number = sum(table.count(*cell) for cell in cells(2, 2, added[index]))
                book.recount(added[index], number)
            low, high = ends(book.facts, question)
            self.assertTrue(low <= question(table) <= high <= low + 2)

    def test_facts_that_are_enough_have_the_same_ends(self):
        given = dice(177)
        for _ in range(30):
            facts = true_facts(given, 3, 2, 6, 5)
            questions = [any_question(given, 3, 2, 3) for _ in range(2)]
            kept, beyond = least_facts(facts, questions)
            alone = Facts(3, 2, [facts.fact(index) for index in kept])
            for question in questions:
                self.same(ends(alone, question), ends(facts, question))
            self.same(is_enough(facts, questions, kept), None)
            for indexes, _, table in beyond:
                self.assertTrue(all(true(facts.fact(index), table) for index in indexes))
                self.assertNotIn(table, facts)

    def test_chains_and_stars_of_one_value(self):
        # With one value in the middle, a chain of two tables is a product of two numbers of rows.
        facts = Facts(1, 1, [(("all",), 2, 5)])
        chain = Chain((Table(((7,),)),), facts, ())
        star = Star(((7,),), ((Spread(1, (2, 5), (0, 1)),),))
        self.same((worst(chain, (0, 1)), worst(star, (0, 1))), ((35, (0, 1)), (35, (0, 1))))
        self.same((list(plans(chain)), list(plans(star))), ([(0, 1)], [(0, 1)]))
        self.same((best(chain), best(star)), (((0, 1), 35), ((0, 1), 35)))


class Lists(Case):

    def test_lists_that_are_told(self):
        chain = Chain((SQUARE,), FACTS, (SQUARE,))
        book = Book(FACTS)
        book.insert(0, 1, 2)
        bench = Bench()
        bench.keep("a", FACTS)
        bench.keep("b", FACTS)
        one = Spread(4, (10, 10), (3, 3))
        for told in (
            SQUARE.lefts, SQUARE.rights, FACTS.listed, lambda: FACTS.over(0, 0), lambda: FACTS(SQUARE * 9),
            lambda: cells(2, 2, ("all",)), lambda: tops(one), lambda: greatest_along((3, 0, 1, 1), [one])[1],
            lambda: results(((0, 1), 2)), lambda: [row[:3] for row in report(chain)], book.history, bench.names,
            lambda: fewest(FACTS, CORNER, [("cell", 0, 0)], 0)[1][:0], lambda: wrong(chain, SQUARE * 9),
            lambda: least_facts(Facts(2, 2), [CORNER])[1], lambda: list(plans(chain)),
            lambda: list(walk(chain, ((0, 1), 2), SQUARE)),
        ):
            self.changed_freely(told)

    def test_lists_that_are_handed_in(self):
        listed = [(("all",), 4, 6)]
        facts = Facts(2, 2, listed)
        listed.append(None)
        self.same(facts.listed(), [(("all",), 4, 6)])
        rows = [(0, 0), (1, 1)]
        table = Table.of_rows(2, 2, rows)
        rows.append((0, 0))
        self.same(table.counts, ((1, 0), (0, 1)))
        wheres = [("left", (0,)), ("cell", 0, 0)]
        found = fewest(FACTS, CORNER, wheres, 0)
        self.same(wheres, [("left", (0,)), ("cell", 0, 0)])
        wheres.clear()
        self.same(found[0], (1,))
        rows = report(Chain((SQUARE,), FACTS, (SQUARE,)))
        kept = list(rows)
        is_report(Chain((SQUARE,), FACTS, (SQUARE,)), rows)
        self.same([row[:3] for row in rows], [row[:3] for row in kept])
        spreads = [Spread(2, (3, 3), (1, 2))] * 2
        greatest_along((1, 2), spreads)
        self.same(len(spreads), 2)
        questions = [CORNER]
        least_facts(FACTS, questions)
        is_enough(FACTS, questions, ())
        self.same(len(questions), 1)

    def test_equal_calls_return_equal_results(self):
        chain = Chain((SQUARE,), FACTS, (SQUARE,))
        for call in (lambda: wide(FACTS, CORNER, [("left", (0,))], 0), lambda: fewest(FACTS, CORNER, [("all",)], 9),
                     lambda: least_facts(FACTS, [CORNER, -CORNER]), lambda: is_enough(FACTS, [CORNER], ()),
                     lambda: report(chain), lambda: best(chain), lambda: contradiction(FACTS)):
            self.assertEqual(call(), call())

    def test_objects_are_equal_to_nothing_of_another_class(self):
        console = Console()
        console.run("keep a size 2 2")
        objects = [SQUARE, FACTS, CORNER, Spread(1, (0, 1), (0, 1)), Book(FACTS), Bench(), console,
                   Chain((SQUARE,), FACTS, ()), Star(((1,),), ((Spread(1, (0, 1), (0, 1)),),))]
        for at, one in enumerate(objects):
            for other in [*objects[:at], *objects[at + 1:], None, 0, (), [], {}, "", True]:
                self.same((one == other, other == one, one != other), (False, False, True))
        for one in (SQUARE, FACTS, CORNER, Spread(1, (0, 1), (0, 1)), Book(FACTS), Bench()):
            self.same(one == Agreeing(), False)


class Kinds(Case):

    def test_bools_and_lists_are_never_accepted(self):
        chain = Chain((Table(((1,),)),), Facts(1, 1, [(("all",), 1, 1)]), (Table(((1,),)),))
        for plan in ((0, (True, 2)), (False, (1, 2)), [0, (1, 2)], (0, [1, 2])):
            self.same((is_plan(chain, plan), (plan == (0, (1, 2)))), (False, not isinstance(plan, list)
                                                                     and not isinstance(plan[1], list)))
        rows = report(chain)
        self.same(is_report(chain, rows), True)
        self.same(is_report(chain, tuple(rows)), False)
        self.same(is_report(chain, [list(row) for row in rows]), False)
        self.same(is_report(chain, [(row[0], True, *row[2:]) for row in rows]), False)

    def test_calls_without_a_result_return_none(self):
        book, bench = Book(FACTS), Bench()
        self.same([book.insert(0, 0), book.remove(0, 0), book.recount(("all",), 5), book.undo(),
                   bench.keep("a", FACTS), bench.drop("a")], [None] * 6)

    def test_an_error_changes_nothing(self):
        book = Book(FACTS)
        book.insert(1, 1)
        before = state(book)
        for change in (("remove", 0, 0, 9), ("recount", ("left", (0,)), 3), ("recount", ("all",), 0)):
            self.same(do(book, change), False)
            self.same(state(book), before)
        self.fails(MissingRows, 2, book.remove, 0, 0, 3)
        self.fails(InvalidFact, ("left", [0]), book.recount, ("left", [0]), 1)
        self.same(state(book), before)
