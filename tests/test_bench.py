"""Points 2, 3 (i) and stage 15: books that are kept on a bench, and trials of it."""

from surecounts.bench import Bench
from surecounts.books import Book
from surecounts.errors import Contradictory, InvalidFact, LimitExceeded, NothingToUndo, UnknownName
from surecounts.facts import Facts
from tests.cases import LONG, ODD, Agreeing, Case

EXAMPLE = Facts(2, 2, [(("all",), 4, 6), (("left", (0,)), 0, 2)])
OTHER = Facts(3, 1, [(("left", (0, 1)), 1, None)])
CLASH = Facts(2, 2, [(("cell", 0, 0), 0, 9), (("all",), 0, 1), (("left", (1,)), 2, 3)])
NAMES = ["a", "abcdefgh", "b", "ca", "cb", "d", "e", "f", "g", "h", "y", "z"]
NO_NAMES = [*[value for value in ODD if repr(value) != "'all'"], 0, "", "A", "abcdefghi", "a b", "a1", "a_b", "a\n", " a", "ab ", "-", "1", ["a"], ("a",), b"a",
            {"a": 1}, "Abc", "aB"]


class Halt(BaseException):
    pass


def state(bench):
    return [(name, bench.book(name).facts.listed(), bench.book(name).history()) for name in bench.names()]


def full():
    bench = Bench()
    for name in NAMES:
        bench.keep(name, EXAMPLE)
    return bench


def two():
    """A bench with two books, one of them with a change, and these."""
    bench = Bench()
    bench.keep("a", EXAMPLE)
    bench.keep("b", OTHER)
    bench.book("b").insert(0, 0, 5)
    return (bench, bench.book("a"), bench.book("b"))


class Benches(Case):

    def test_what_is_kept(self):
        bench = Bench()
        self.same((len(bench), bench.names()), (0, []))
        self.same(bench.keep("b", OTHER), None)
        self.same(bench.keep(facts=EXAMPLE, name="a"), None)
        self.same((len(bench), bench.names()), (2, ["a", "b"]))
        self.assertIsInstance(bench.book("a"), Book)
        self.assertIs(bench.book(name="a"), bench.book("a"))
        self.assertIs(bench.book("a").facts, EXAMPLE)
        self.same(bench.drop(name="a"), None)
        self.same((len(bench), bench.names()), (1, ["b"]))
        self.fails(UnknownName, "a", bench.book, "a")
        self.fails(UnknownName, "a", bench.drop, "a")
        self.changed_freely(bench.names)

    def test_a_book_on_the_bench_changes(self):
        bench, one, _ = two()
        one.insert(0, 1, 3)
        self.same(bench.book("a").history(), [("insert", 0, 1, 3)])
        bench.book("a").undo()
        self.same(len(one), 0)

    def test_an_earlier_book_is_replaced(self):
        bench, one, _ = two()
        one.insert(0, 0)
        bench.keep("a", OTHER)
        self.assertIsNot(bench.book("a"), one)
        self.same((bench.book("a").facts.listed(), len(bench.book("a")), len(bench)), (OTHER.listed(), 0, 2))
        one.insert(1, 1)
        self.same((len(one), len(bench.book("a"))), (2, 0))
        bench.keep("a", one.facts)
        self.same(bench.book("a").history(), [])

    def test_names_of_one_and_eight_letters(self):
        bench = full()
        self.same(bench.names(), sorted(NAMES))
        for name in NO_NAMES:
            self.fails(UnknownName, name, bench.keep, name, None)
            self.fails(UnknownName, name, bench.keep, name, EXAMPLE)
            self.fails(UnknownName, name, bench.book, name)
            self.fails(UnknownName, name, bench.drop, name)
        self.fails(UnknownName, "abcdefg", bench.book, "abcdefg")
        self.same(len(bench), 12)

    def test_twelve_books_and_a_thirteenth(self):
        bench = full()
        self.same(len(bench), 12)
        before = state(bench)
        self.fails(LimitExceeded, 12, bench.keep, "thirteen", EXAMPLE)
        self.fails(InvalidFact, None, bench.keep, "thirteen", None)
        self.fails(Contradictory, (1, 2), bench.keep, "thirteen", CLASH)
        self.fails(UnknownName, "Thirteen", bench.keep, "Thirteen", CLASH)
        self.same(state(bench), before)
        bench.keep("z", OTHER)
        self.same(len(bench), 12)
        bench.drop("a")
        bench.keep("thirteen", EXAMPLE)
        self.same((len(bench), bench.names()[0], "thirteen" in bench.names()), (12, "abcdefgh", True))
        self.fails(LimitExceeded, 12, bench.keep, "a", EXAMPLE)

    def test_errors_over_kept_names(self):
        bench, one, _ = two()
        one.insert(0, 0)
        for value in [*ODD, EXAMPLE.listed(), one]:
            self.fails(InvalidFact, value, bench.keep, "a", value)
            self.fails(InvalidFact, value, bench.keep, "c", value)
            self.fails(UnknownName, "a c", bench.keep, "a c", value)
        self.fails(Contradictory, (1, 2), bench.keep, "a", CLASH)
        self.assertIs(bench.book("a"), one)
        self.same((len(one), bench.names()), (1, ["a", "b"]))

    def test_copy_goes_on_by_itself(self):
        bench, one, two_book = two()
        other = bench.copy()
        self.assertIsInstance(other, Bench)
        self.same((bench == other, state(other)), (True, state(bench)))
        self.assertIsNot(other.book("a"), one)
        other.book("a").insert(0, 0)
        self.same((len(one), bench == other), (0, False))
        other.book("a").undo()
        self.same(bench == other, True)
        other.book("b").undo()
        self.same(len(two_book), 1)
        other.drop("b")
        other.keep("c", EXAMPLE)
        self.same((bench.names(), other.names()), (["a", "b"], ["a", "c"]))
        bench.drop("a")
        self.same(other.names(), ["a", "c"])

    def test_equal_benches(self):
        one, other = Bench(), Bench()
        self.same((one == other, one != other), (True, False))
        one.keep("a", EXAMPLE)
        one.keep("b", OTHER)
        other.keep("b", OTHER)
        self.same(one == other, False)
        other.keep("a", Facts(2, 2, EXAMPLE.listed()))
        self.same((one == other, one != other), (True, False))
        one.book("a").insert(0, 0)
        self.same((one == other, one != other), (False, True))
        other.book("a").insert(0, 0)
        self.same(one == other, True)
        other.keep("a", one.book("a").facts)
        self.same(one == other, False)
        other.keep("c", EXAMPLE)
        other.drop("a")
        self.same(one == other, False)
        for value in [value for value in ODD if not isinstance(value, Agreeing)] + [one.book("a"), {"a": EXAMPLE}]:
            self.same((one == value, one != value), (False, True))
        self.same((one == Agreeing(), Bench() == {}, Bench() == Bench()), (False, False, True))


class Trials(Case):

    def test_the_very_books_are_kept_again_each_as_it_was(self):
        bench, one, other = two()
        before = state(bench)
        facts = (one.facts, other.facts)
        with bench.trial() as given:
            self.assertIs(given, bench)
            one.insert(0, 0)
            other.undo()
            bench.drop("b")
            other.insert(2, 0, 4)
            bench.keep("a", OTHER)
            one.insert(1, 1)
            replaced = bench.book("a")
            replaced.insert(0, 0, 3)
            bench.keep("c", EXAMPLE)
            new = bench.book("c")
            new.insert(1, 0)
            self.same((bench.names(), len(one), len(other)), (["a", "c"], 2, 1))
        self.same(state(bench), before)
        self.assertIs(bench.book("a"), one)
        self.assertIs(bench.book("b"), other)
        self.assertIs(one.facts, facts[0])
        self.assertIs(other.facts, facts[1])
        # Other books go on as they are.
        self.same((replaced.history(), new.history()), ([("insert", 0, 0, 3)], [("insert", 1, 0, 1)]))
        new.undo()
        replaced.insert(0, 0)
        self.same((len(new), len(replaced), state(bench)), (0, 2, before))
        other.undo()
        one.insert(0, 1)
        self.same((len(bench.book("b")), bench.book("a").history()), (0, [("insert", 0, 1, 1)]))
        self.fails(NothingToUndo, "undo", other.undo)

    def test_books_that_were_dropped_before(self):
        bench, one, other = two()
        bench.drop("a")
        with bench.trial():
            one.insert(0, 0)
            other.insert(0, 0)
        self.same((len(one), len(other), bench.names()), (1, 1, ["b"]))
        bench.keep("a", EXAMPLE)
        with bench.trial():
            bench.book("a").insert(1, 1)
            one.insert(1, 1)
        self.same((len(one), len(bench.book("a"))), (2, 0))

    def test_an_error_passes_on(self):
        bench, one, other = two()
        before = state(bench)
        for error in (KeyError, Halt, ValueError):
            with self.assertRaises(error):
                with bench.trial():
                    one.insert(0, 0)
                    bench.drop("a")
                    other.undo()
                    raise error
            self.same(state(bench), before)
            self.assertIs(bench.book("a"), one)
        with self.assertRaises(LimitExceeded):
            with bench.trial() as given:
                for name in NAMES + ["thirteen"]:
                    given.keep(name, EXAMPLE)
        self.same(state(bench), before)

    def test_trials_within_trials(self):
        bench, one, other = two()
        before = state(bench)
        with bench.trial():
            one.insert(0, 0)
            bench.keep("c", EXAMPLE)
            third = bench.book("c")
            third.insert(0, 0)
            bench.drop("b")
            other.undo()
            inner = state(bench)
            with bench.trial():
                one.insert(1, 1)
                third.undo()
                bench.drop("c")
                bench.keep("b", EXAMPLE)
                other.insert(2, 0, 7)
            self.same(state(bench), inner)
            self.assertIs(bench.book("c"), third)
            self.same((len(one), len(third), other.history()), (1, 1, [("insert", 2, 0, 7)]))
            with self.assertRaises(Halt):
                with bench.trial():
                    third.insert(1, 0)
                    one.undo()
                    raise Halt
            self.same(state(bench), inner)
            third.insert(0, 1)
            one.undo()
            one.insert(1, 0)
        self.same(state(bench), before)
        self.assertIs(bench.book("b"), other)
        self.same((third.history(), len(one), len(other)), ([("insert", 0, 0, 1), ("insert", 0, 1, 1)], 0, 1))
        with bench.trial():
            one.insert(0, 0)
        self.same(state(bench), before)

    def test_a_failing_trial_within_a_trial_fails_both(self):
        bench, one, _ = two()
        before = state(bench)
        with self.assertRaises(Halt):
            with bench.trial():
                one.insert(0, 0)
                with bench.trial():
                    bench.drop("a")
                    one.insert(0, 0)
                    raise Halt
        self.same(state(bench), before)

    def test_many_trials_one_after_the_other(self):
        bench, one, other = two()
        for many in range(30):
            with bench.trial():
                one.insert(0, 0, 9)
                with bench.trial():
                    one.undo()
                    other.insert(1, 0)
                self.same(len(one), many + 1)
                bench.drop("b")
            self.same((len(one), len(other), bench.names()), (many, 1 + many, ["a", "b"]))
            one.insert(1, 1)
            other.insert(0, 0)
        self.same(one.history(), [("insert", 1, 1, 1)] * 30)

    def test_the_trial_begins_with_its_with(self):
        bench, one, _ = two()
        trial = bench.trial()
        one.insert(0, 0)
        bench.drop("b")
        with trial as given:
            self.assertIs(given, bench)
            one.insert(0, 0)
        self.same((len(one), bench.names()), (1, ["a"]))

    def test_attempts(self):
        bench, one, other = two()
        before = state(bench)

        def visitor(given):
            self.assertIs(given, bench)
            one.insert(0, 0)
            given.drop("a")
            given.keep("new", OTHER)
            return [given.names(), len(one)]

        self.same(bench.attempt(visitor), [["b", "new"], 1])
        self.same(bench.attempt(visitor=visitor), [["b", "new"], 1])
        self.same(state(bench), before)

        def failing(given):
            given.drop("b")
            other.insert(0, 0)
            given.book("b")

        self.fails(UnknownName, "b", bench.attempt, failing)
        self.same(state(bench), before)
        self.same(bench.attempt(lambda given: given.attempt(visitor)), [["b", "new"], 1])
        self.same(bench.attempt(lambda given: (given.attempt(visitor), given.names())),
                  ([["b", "new"], 1], ["a", "b"]))
        self.same(state(bench), before)

    def test_attempts_of_books_and_trials_of_benches(self):
        bench, one, other = two()

        def visitor(book):
            book.insert(0, 0)
            with bench.trial():
                book.insert(1, 1)
                bench.drop("a")
                book.undo()
                book.undo()
            self.same(book.history(), [("insert", 0, 0, 1)])
            book.insert(0, 1)
            bench.drop("b")
            return len(book)

        self.same(one.attempt(visitor), 2)
        # An attempt of a book leaves the book as it was, not the bench.
        self.same((one.history(), bench.names()), ([], ["a"]))
        with bench.trial():
            one.insert(1, 0)
            self.same(one.attempt(visitor=lambda book: book.undo()), None)
            self.same(len(one), 1)
        self.same((len(one), len(other)), (0, 1))

    def test_copies_made_within_a_trial_go_on(self):
        bench, one, _ = two()
        with bench.trial():
            one.insert(0, 0)
            other, book = bench.copy(), one.copy()
            bench.drop("b")
        self.same((other.names(), len(other.book("a")), len(book), len(one)), (["a", "b"], 1, 1, 0))
        other.book("a").undo()
        book.insert(1, 1, LONG)
        self.same((len(other.book("a")), len(book)), (0, 2))

    def test_an_empty_bench_and_a_full_one(self):
        bench = Bench()
        with bench.trial():
            bench.keep("a", EXAMPLE)
        self.same((len(bench), bench == Bench()), (0, True))
        bench = full()
        books = [bench.book(name) for name in NAMES]
        with bench.trial():
            for name, book in zip(NAMES, books):
                book.insert(0, 0)
                bench.drop(name)
                book.insert(0, 0)
            bench.keep("thirteen", EXAMPLE)
        self.same(bench.names(), NAMES)
        for name, book in zip(NAMES, books):
            self.assertIs(bench.book(name), book)
            self.same(len(book), 0)
        self.fails(LimitExceeded, 12, bench.keep, "thirteen", EXAMPLE)
