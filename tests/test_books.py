"""Points 3 (g), (i), 14 and stage 13: the facts of a kept table while rows come and go and are counted."""

import itertools

from surecounts.books import Book
from surecounts.contradictions import least_part
from surecounts.ends import fitting, greatest
from surecounts.errors import (Contradictory, InvalidFact, InvalidNumber, InvalidTable, MissingRows, NothingToUndo)
from surecounts.facts import Facts
from surecounts.questions import Question
from surecounts.tables import Table
from tests.cases import LONG, ODD, Agreeing, Case
from tests.samples import dice, rows, tables, true_facts, wheres

EXAMPLE = Facts(2, 2, [(("all",), 4, 6), (("left", (0,)), 0, 2)])
CLASH = Facts(2, 2, [(("cell", 0, 0), 0, 9), (("all",), 0, 1), (("left", (1,)), 2, 3)])
MOST = 4
ALL = tables(2, 2, MOST)


def fitted(facts):
    """All tables that fit, of those with few rows in each cell."""
    return [table for table in ALL if table in facts]


def changed(table, left, right, many):
    """The table with so many rows more in a cell."""
    return Table(tuple(tuple(number + (many if (a, b) == (left, right) else 0) for b, number in enumerate(line))
                       for a, line in enumerate(table.counts)))


def counts(found):
    return sorted(table.counts for table in found)


def any_book(given, left, right, many, most):
    """A book whose facts are true of some table, and this table."""
    facts = true_facts(given, left, right, many, most)
    return (Book(facts), fitting(facts))


def any_change(given, book, most):
    """Some change that the book may refuse."""
    left, right = book.facts.left, book.facts.right
    cell = (given.randrange(left), given.randrange(right))
    word = given.choice(["insert", "insert", "remove", "recount"])
    if word == "recount":
        return (word, wheres(given, left, right, 1)[0], given.randint(0, 3 * most))
    return (word, *cell, given.randint(1, most))


def do(book, change):
    """Does a change; returns whether the book took it."""
    try:
        {"insert": book.insert, "remove": book.remove, "recount": book.recount}[change[0]](*change[1:])
    except (MissingRows, InvalidFact, Contradictory):
        return False
    return True


def state(book):
    return (book.facts.left, book.facts.right, book.facts.listed(), book.history(), len(book))


class Books(Case):

    def test_example(self):
        book = Book(EXAMPLE)
        self.same(book.insert(0, 1, 3), None)
        self.same(book.remove(1, 1), None)
        self.same((book.facts.listed(), book.history()),
                  ([(("all",), 6, 8), (("left", (0,)), 3, 5), (("cell", 0, 1), 3, None)],
                   [("insert", 0, 1, 3), ("remove", 1, 1, 1)]))
        self.same(len(book), 2)
        self.same(book.recount(("left", (0,)), 4), None)
        self.same(book.facts.listed(), [(("all",), 6, 8), (("left", (0,)), 4, 4), (("cell", 0, 1), 3, None)])
        self.same(book.history()[-1], ("recount", ("left", (0,)), 4))
        self.same(book.undo(), None)
        self.same(len(book), 2)

    def test_arguments_by_name(self):
        book = Book(facts=EXAMPLE)
        book.insert(many=3, right=1, left=0)
        book.remove(right=1, left=1)
        book.remove(many=2, right=1, left=0)
        book.recount(number=2, where=("left", (0,)))
        self.same(book.history(), [("insert", 0, 1, 3), ("remove", 1, 1, 1), ("remove", 0, 1, 2),
                                   ("recount", ("left", (0,)), 2)])
        self.same(book.attempt(visitor=len), 4)
        self.same(book.applied(table=Table(((0, 1), (0, 1)))).counts, ((0, 2), (0, 0)))

    def test_facts_are_those_of_now(self):
        book = Book(EXAMPLE)
        self.assertIs(book.facts, EXAMPLE)
        book.insert(0, 0)
        self.same(EXAMPLE.listed(), [(("all",), 4, 6), (("left", (0,)), 0, 2)])
        self.assertIsInstance(book.facts, Facts)
        self.same((book.facts.left, book.facts.right), (2, 2))
        with self.assertRaises(AttributeError):
            book.facts = EXAMPLE

    def test_insert_fact_by_fact(self):
        listed = [(("all",), 4, None), (("left", (0,)), 1, 2), (("left", (1,)), 1, 2), (("right", (0, 1)), 0, 9),
                  (("right", (0,)), 0, 0), (("cell", 1, 1), 0, 5), (("cell", 1, 0), 0, None)]
        book = Book(Facts(2, 2, listed))
        book.insert(1, 1, 3)
        self.same(book.facts.listed(), [(("all",), 7, None), (("left", (0,)), 1, 2), (("left", (1,)), 4, 5),
                                        (("right", (0, 1)), 3, 12), (("right", (0,)), 0, 0), (("cell", 1, 1), 3, 8),
                                        (("cell", 1, 0), 0, None)])
        book.insert(0, 1)
        self.same(book.facts.listed(), [(("all",), 8, None), (("left", (0,)), 2, 3), (("left", (1,)), 4, 5),
                                        (("right", (0, 1)), 4, 13), (("right", (0,)), 0, 0), (("cell", 1, 1), 3, 8),
                                        (("cell", 1, 0), 0, None), (("cell", 0, 1), 1, None)])
        book = Book(Facts(1, 1, [(("all",), 1, 1)]))
        book.insert(0, 0, LONG)
        self.same(book.facts.listed(), [(("all",), 1 + LONG, 1 + LONG), (("cell", 0, 0), LONG, None)])
        book.insert(0, 0)
        self.same(book.facts.listed(), [(("all",), 2 + LONG, 2 + LONG), (("cell", 0, 0), LONG + 1, None)])
        book = Book(Facts(3, 1, [(("left", (0, 2)), 1, 1), (("left", (1,)), 0, 0)]))
        book.insert(2, 0, 2)
        self.same(book.facts.listed(), [(("left", (0, 2)), 3, 3), (("left", (1,)), 0, 0), (("cell", 2, 0), 2, None)])

    def test_remove_fact_by_fact(self):
        listed = [(("all",), 4, None), (("left", (1,)), 1, 5), (("left", (1,)), 0, 4), (("right", (0,)), 7, 9),
                  (("cell", 1, 1), 3, 9)]
        book = Book(Facts(2, 2, listed))
        book.remove(1, 1, 3)
        self.same(book.facts.listed(), [(("all",), 1, None), (("left", (1,)), 0, 2), (("left", (1,)), 0, 1),
                                        (("right", (0,)), 7, 9), (("cell", 1, 1), 0, 6)])
        book.remove(1, 1)
        self.same(book.facts.listed(), [(("all",), 0, None), (("left", (1,)), 0, 1), (("left", (1,)), 0, 0),
                                        (("right", (0,)), 7, 9), (("cell", 1, 1), 0, 5)])
        self.fails(MissingRows, 0, book.remove, 1, 1)
        book.remove(0, 1, LONG)
        self.same(book.facts.listed()[0], (("all",), 0, None))
        self.same(book.history()[-1], ("remove", 0, 1, LONG))

    def test_recount_fact_by_fact(self):
        listed = [(("left", (0,)), 1, 8), (("all",), 2, None), (("left", (0,)), 0, None), (("left", (0, 1)), 2, 9)]
        book = Book(Facts(2, 2, listed))
        book.recount(("left", (0,)), 7)
        self.same(book.facts.listed(), [(("left", (0,)), 7, 7), (("all",), 2, None), (("left", (0,)), 7, 7),
                                        (("left", (0, 1)), 2, 9)])
        book.recount(("left", (0, 1)), 9)
        self.same(book.facts.listed()[3], (("left", (0, 1)), 9, 9))
        book.recount(("right", (0,)), 0)
        book.recount(("cell", 1, 1), 2)
        self.same(book.facts.listed()[4:], [(("right", (0,)), 0, 0), (("cell", 1, 1), 2, 2)])
        book.recount(("all",), 9)
        self.same(book.facts.listed()[1], (("all",), 9, 9))
        self.fails(Contradictory, (1,), book.recount, ("all",), 8)
        self.same(book.history(), [("recount", ("left", (0,)), 7), ("recount", ("left", (0, 1)), 9),
                                   ("recount", ("right", (0,)), 0), ("recount", ("cell", 1, 1), 2),
                                   ("recount", ("all",), 9)])

    def test_tables_behind_an_insert_or_a_remove(self):
        given = dice(131)
        for _ in range(40):
            book, _ = any_book(given, 2, 2, given.randint(0, 4), 2)
            before = fitted(book.facts)
            for left, right, many in itertools.product(range(2), range(2), (1, 2)):
                def both(book, left=left, right=right, many=many):
                    book.insert(left, right, many)
                    expected = [changed(table, left, right, many) for table in before]
                    inner = [table for table in expected if table.count(left, right) <= MOST]
                    self.same(counts(fitted(book.facts)), counts(inner))
                book.attempt(both)
                enough = [table for table in before if table.count(left, right) >= many]

                def less(book, left=left, right=right, many=many):
                    most = greatest(book.facts, Question.at(2, 2, ("cell", left, right)))[0]
                    if most is not None and most < many:
                        self.same(enough, [])
                        self.fails(MissingRows, most, book.remove, left, right, many)
                        return
                    book.remove(left, right, many)
                    found = [table for table in fitted(book.facts) if table.count(left, right) <= MOST - many]
                    self.same(counts(found), counts(changed(table, left, right, -many) for table in enough))
                book.attempt(less)

    def test_tables_behind_a_count(self):
        given = dice(132)
        taken = 0
        for _ in range(60):
            book, table = any_book(given, 2, 2, given.randint(0, 4), 2)
            before = fitted(book.facts)
            for where in wheres(given, 2, 2, 2):
                for number in range(6):
                    expected = [table for table in before if rows(table, where) == number]
                    other = book.copy()
                    if do(other, ("recount", where, number)):
                        taken += 1
                        self.same(counts(fitted(other.facts)), counts(expected))
                    else:
                        self.same(other == book, True)
                        try:
                            self.same(fitted(book.facts.with_fact((where, number, number))), [])
                        except InvalidFact:
                            continue
        self.assertGreater(taken, 50)

    def test_a_table_that_is_led_along_fits_at_each_moment(self):
        given = dice(133)
        for _ in range(40):
            book, table = any_book(given, given.randint(1, 3), given.randint(1, 3), given.randint(0, 6),
                                   given.choice([3, 10 ** 50]))
            start = table
            for _ in range(12):
                word, *told = any_change(given, book, 3)
                if word == "recount":
                    told[1] = rows(table, told[0])
                if word == "remove" and table.count(told[0], told[1]) < told[2]:
                    continue
                if not do(book, (word, *told)):
                    self.same(word == "remove", False)
                    continue
                if word != "recount":
                    table = changed(table, told[0], told[1], told[2] if word == "insert" else -told[2])
                self.assertIn(table, book.facts)
                self.same(book.applied(start).counts, table.counts)

    def test_many_is_one_if_it_is_left_out(self):
        book, other = Book(EXAMPLE), Book(EXAMPLE)
        book.insert(1, 0)
        book.remove(1, 1)
        other.insert(1, 0, 1)
        other.remove(1, 1, 1)
        self.same(state(book), state(other))
        self.same(book.history(), [("insert", 1, 0, 1), ("remove", 1, 1, 1)])

    def test_forty_facts(self):
        wide = Facts(8, 8, [(("cell", at // 8, at % 8), 0, 3) for at in range(39)])
        book = Book(wide)
        book.insert(7, 7)
        self.same(len(book.facts), 40)
        before = state(book)
        self.fails(InvalidFact, None, book.insert, 7, 6)
        self.fails(InvalidFact, None, book.recount, ("all",), 3)
        self.fails(InvalidFact, None, book.recount, ("cell", 7, 6), 0)
        self.same(state(book), before)
        book.insert(7, 7, 2)
        book.insert(0, 0)
        book.remove(7, 6, 9)
        book.recount(("cell", 0, 0), 2)
        self.same((len(book.facts), book.facts.fact(39), book.facts.fact(0)),
                  (40, (("cell", 7, 7), 3, None), (("cell", 0, 0), 2, 2)))


class Back(Case):

    def test_undo_leads_back_through_all_states(self):
        given = dice(134)
        for _ in range(20):
            book, _ = any_book(given, 3, 2, 4, 4)
            states = [state(book)]
            while len(states) < 12:
                if do(book, any_change(given, book, 3)):
                    states.append(state(book))
                elif given.random() < 0.3 and len(book) > 0:
                    book.undo()
                    states.pop()
                self.same(state(book), states[-1])
                self.same(len(book), len(states) - 1)
            while len(states) > 1:
                states.pop()
                self.same(book.undo(), None)
                self.same(state(book), states[-1])
            for _ in range(2):
                self.fails(NothingToUndo, "undo", book.undo)
                self.same(state(book), states[-1])

    def test_copy_goes_on_by_itself(self):
        book = Book(EXAMPLE)
        book.insert(0, 1, 3)
        other = book.copy()
        self.assertIsInstance(other, Book)
        self.assertIsNot(other, book)
        self.same((book == other, state(other)), (True, state(book)))
        other.remove(1, 1)
        self.same((len(book), len(other), book == other), (1, 2, False))
        book.undo()
        self.same((len(book), len(other)), (0, 2))
        self.same(state(book), state(Book(EXAMPLE)))
        other.undo()
        other.undo()
        self.same((state(other), book == other), (state(book), True))
        self.fails(NothingToUndo, "undo", other.undo)

    def test_attempt_leaves_the_book_as_before(self):
        book = Book(EXAMPLE)
        book.insert(0, 1, 3)
        book.remove(1, 1)
        before = state(book)
        facts = book.facts

        def visitor(given):
            self.assertIs(given, book)
            given.insert(1, 1, 5)
            given.undo()
            given.undo()
            given.undo()
            given.recount(("all",), 5)
            self.same(len(book), 1)
            return [given.facts.listed(), given]

        told = book.attempt(visitor)
        self.same(told[0], [(("all",), 5, 5), (("left", (0,)), 0, 2)])
        self.assertIs(told[1], book)
        self.same(state(book), before)
        self.assertIs(book.facts, facts)
        book.undo()
        book.undo()
        self.same(state(book), state(Book(EXAMPLE)))

    def test_attempt_passes_errors_on(self):
        book = Book(EXAMPLE)
        book.insert(0, 1, 3)
        before = state(book)

        class Odd(BaseException):
            pass

        def change(given):
            given.insert(1, 1)
            given.recount(("all",), 0)

        def change_and_stop(given):
            given.undo()
            given.insert(0, 0, 9)
            raise Odd()

        self.fails(Contradictory, (0,), book.attempt, change)
        self.same(state(book), before)
        with self.assertRaises(Odd):
            book.attempt(change_and_stop)
        self.same(state(book), before)
        self.fails(NothingToUndo, "undo", book.attempt, lambda given: (given.undo(), given.undo()))
        self.same(state(book), before)

    def test_attempts_within_attempts(self):
        book = Book(EXAMPLE)
        seen = []

        def inner(given):
            given.insert(1, 1)
            seen.append(len(given))
            given.undo()
            given.undo()
            seen.append(len(given))
            raise KeyError

        def outer(given):
            given.insert(0, 0)
            given.insert(0, 1)
            try:
                given.attempt(inner)
            except KeyError:
                seen.append(given.history())
            given.remove(0, 0)
            given.attempt(lambda book: book.undo())
            seen.append(len(given))
            given.attempt(lambda book: seen.append(len(book)))
            return "told"

        self.same(book.attempt(outer), "told")
        self.same(seen, [3, 1, [("insert", 0, 0, 1), ("insert", 0, 1, 1)], 3, 3])
        self.same(state(book), state(Book(EXAMPLE)))
        book.insert(1, 1)
        self.same(book.history(), [("insert", 1, 1, 1)])

    def test_attempt_of_a_copy_and_in_a_copy(self):
        book = Book(EXAMPLE)
        book.insert(0, 0)
        kept = []

        def visitor(given):
            given.insert(1, 1)
            kept.append(given.copy())
            kept[0].insert(0, 1)

        book.attempt(visitor)
        self.same((len(book), len(kept[0])), (1, 3))
        kept[0].undo()
        self.same(kept[0].history(), [("insert", 0, 0, 1), ("insert", 1, 1, 1)])

    def test_equal_books(self):
        one, other = Book(EXAMPLE), Book(Facts(2, 2, EXAMPLE.listed()))
        self.same((one == other, one != other), (True, False))
        one.insert(0, 0)
        self.same((one == other, one != other), (False, True))
        other.insert(0, 0)
        self.same((one == other, one != other), (True, False))
        other.undo()
        other.insert(0, 0, 2)
        other.remove(0, 0, 1)
        self.same(one == other, False)
        self.same(Book(one.facts) == one, False)
        self.same(Book(EXAMPLE) == Book(Facts(2, 3, EXAMPLE.listed())), False)
        self.same(Book(EXAMPLE) == Book(Facts(2, 2, EXAMPLE.listed()[::-1])), False)
        # The same facts by another way, with another history.
        one, other = Book(EXAMPLE), Book(EXAMPLE)
        one.recount(("left", (0,)), 1)
        other.recount(("left", (0,)), 1)
        other.recount(("left", (0,)), 1)
        self.same((one.facts == other.facts, one == other), (True, False))
        for value in [value for value in ODD if not isinstance(value, Agreeing)] + [EXAMPLE, EXAMPLE.listed()]:
            self.same((one == value, one != value), (False, True))
        self.same(one == Agreeing(), False)

    def test_lists_are_new(self):
        book = Book(EXAMPLE)
        book.insert(0, 0)
        self.changed_freely(book.history)
        self.changed_freely(lambda: book.facts.listed())
        listed = [(("all",), 0, 5)]
        facts = Facts(2, 2, listed)
        book = Book(facts)
        listed.clear()
        self.same(book.facts.listed(), [(("all",), 0, 5)])


class Applied(Case):

    def test_applied(self):
        book = Book(EXAMPLE)
        table = Table(((1, 1), (2, 1)))
        self.same(book.applied(table).counts, table.counts)
        book.insert(0, 1, 3)
        book.remove(1, 0, 2)
        book.recount(("left", (0,)), 5)
        self.same(book.applied(table).counts, ((1, 4), (0, 1)))
        self.same(table.counts, ((1, 1), (2, 1)))
        self.same(book.applied(Table(((0, 0), (2, 0)))).counts, ((0, 3), (0, 0)))
        self.same(book.applied(Table(((0, 0), (LONG, 0)))).counts, ((0, 3), (LONG - 2, 0)))
        book.undo()
        book.undo()
        self.same(book.applied(table).counts, ((1, 4), (2, 1)))

    def test_rows_that_lack(self):
        book = Book(Facts(2, 2))
        book.remove(0, 0, 5)
        book.insert(0, 0, 9)
        book.remove(0, 0, 12)
        before = state(book)
        self.fails(MissingRows, 4, book.applied, Table(((1, 9), (9, 9))))
        self.fails(MissingRows, 1, book.applied, Table(((7, 9), (9, 9))))
        self.same(book.applied(Table(((8, 9), (9, 9)))).counts, ((0, 9), (9, 9)))
        self.same(book.applied(Table(((LONG, 0), (0, 0)))).counts, ((LONG - 8, 0), (0, 0)))
        self.same(state(book), before)

    def test_what_is_no_table(self):
        book = Book(Facts(2, 2))
        for value in [*ODD, 0, Table(((1, 2, 3), (1, 2, 3))), Table(((1, 2),)), ((0, 0), (0, 0)), EXAMPLE]:
            self.fails(InvalidTable, value, book.applied, value)
        book.remove(0, 0)
        for value in ODD:
            self.fails(InvalidTable, value, book.applied, value)


class Wrong(Case):

    def refuses(self, book, error, value, name, *given):
        before = state(book)
        facts = book.facts
        self.fails(error, value, getattr(book, name), *given)
        self.same(state(book), before)
        self.assertIs(book.facts, facts)

    def test_facts(self):
        for value in [*ODD, 0, EXAMPLE.listed(), Book(EXAMPLE), Table(((1,),))]:
            self.fails(InvalidFact, value, Book, value)
        self.fails(Contradictory, (1, 2), Book, CLASH)

    def test_rows(self):
        book = Book(EXAMPLE)
        book.insert(0, 0)
        bad = [*ODD, -1, 2, LONG, 0.0]
        for name in ("insert", "remove"):
            for value in [value for value in bad if value != 0] + [False, True]:
                self.refuses(book, InvalidNumber, value, name, value, value, value)
                self.refuses(book, InvalidNumber, value, name, 0, value, None)
                self.refuses(book, InvalidNumber, value, name, 1, value, 0)
                self.refuses(book, InvalidNumber, value, name, value, 0)
            for value in [*ODD, 0, -1, -LONG, 1.0, "1"]:
                self.refuses(book, InvalidNumber, value, name, 1, 1, value)

    def test_missing_rows(self):
        book = Book(Facts(2, 2, [(("left", (0,)), 0, 5), (("right", (1,)), 0, 3), (("cell", 0, 0), 0, 4),
                                 (("cell", 0, 1), 1, None)]))
        for left, right, most in ((0, 0, 4), (0, 1, 3), (1, 1, 2)):
            for many in (most + 1, LONG):
                self.refuses(book, MissingRows, most, "remove", left, right, many)
        for left, right, many in ((0, 0, 4), (0, 1, 3), (1, 1, 2), (1, 0, LONG)):
            self.same(book.attempt(lambda book: do(book, ("remove", left, right, many))), True)
        self.refuses(Book(Facts(1, 1, [(("all",), 0, 0)])), MissingRows, 0, "remove", 0, 0)

    def test_recount(self):
        book = Book(Facts(3, 2, [(("left", (0, 1)), 0, 5), (("left", (0, 1)), 2, None), (("all",), 3, 7),
                                 (("left", (0, 1)), 1, 4)]))
        for value in [*ODD, 0, "all", ["all"], ("all", 0), ("left", ()), ("left", (1, 0)), ("left", (3,)),
                      ("left", [0]), ("left", (False,)), ("cell", 0, 2), ("cell", 3, 0), ("cell", 0, True),
                      ("left", (0,), 1), (("all",), 0, 1)]:
            self.refuses(book, InvalidFact, value, "recount", value, None)
            self.refuses(book, InvalidFact, value, "recount", value, 4)
        for value in [value for value in ODD if value != 0] + [False, -1, -LONG, 1.0, "3"]:
            for where in (("left", (0, 1)), ("left", (1, 2)), ("right", (0,))):
                self.refuses(book, InvalidNumber, value, "recount", where, value)
        for number in (0, 9, LONG):
            self.refuses(book, InvalidFact, (0, 4), "recount", ("left", (1, 2)), number)
        for number, index in ((0, 1), (1, 1), (5, 3), (6, 0), (LONG, 0)):
            self.refuses(book, Contradictory, (index,), "recount", ("left", (0, 1)), number)
        self.refuses(book, Contradictory, (2,), "recount", ("all",), 8)
        self.refuses(book, Contradictory, (2,), "recount", ("all",), 2)
        for number in (8, LONG):
            with self.assertRaises(Contradictory) as caught:
                book.recount(("left", (2,)), number)
            counted = book.facts.with_fact((("left", (2,)), number, number))
            self.same(caught.exception.part, least_part(counted))
            self.same(caught.exception.part, (2, 4))
        self.same(len(book), 0)
        book.recount(("left", (2,)), 5)
        self.same(book.history(), [("recount", ("left", (2,)), 5)])

    def test_a_count_that_only_all_facts_together_refuse(self):
        book = Book(Facts(2, 2, [(("all",), 5, 5), (("left", (0,)), 0, 9), (("left", (1,)), 3, 4)]))
        # As they would be: left 0 exactly 3, left 1 at least 3, 5 in all.
        self.refuses(book, Contradictory, (0, 1, 2), "recount", ("left", (0,)), 3)
        self.refuses(book, Contradictory, (0, 1), "recount", ("left", (0,)), 6)
        self.refuses(book, Contradictory, (0, 1, 2), "recount", ("left", (0,)), 0)

    def test_undo(self):
        self.refuses(Book(EXAMPLE), NothingToUndo, "undo", "undo")
