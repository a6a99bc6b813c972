"""Points 2, 14, 15 and stage 15: commands of a console, what they tell and the errors of wrong ones."""

from surecounts.bench import Bench
from surecounts.books import Book
from surecounts.console import Console
from surecounts.contradictions import least_part
from surecounts.ends import ends
from surecounts.errors import (Contradictory, InvalidCommand, InvalidFact, InvalidNumber, InvalidText, LimitExceeded,
                               MissingRows, NothingToUndo, SureError, UnknownName)
from surecounts.facts import Facts
from surecounts.language import write_question
from surecounts.texts import write_facts
from tests.cases import LONG, ODD, Case
from tests.samples import any_facts, any_question, dice, true_facts
from tests.test_books import any_change, state

FACTS = "size 2 2; all 4 6; left 0 0 2"


def where_words(where):
    if where[0] == "cell":
        return f"cell {where[1]} {where[2]}"
    return " ".join([where[0], *[",".join(map(str, values)) for values in where[1:]]])


def command(name, change):
    """The command that does a change."""
    if change[0] == "recount":
        return f"recount {name} {change[2]} {where_words(change[1])}"
    return f"{change[0]} {name} {change[1]} {change[2]} {change[3]}"


def told(function, *given):
    """What a call returns, or its error with the value."""
    try:
        return function(*given)
    except (SureError, InvalidNumber, LimitExceeded, Contradictory, MissingRows, NothingToUndo) as error:
        return (error.__class__, repr(vars(error)))


class Consoles(Case):

    def run_all(self, *commands):
        console = Console()
        return (console, [console.run(command) for command in commands])

    def test_example(self):
        _, answers = self.run_all("keep a size 2 2; all 4 6; left 0 0 2", "insert a 0 1 3", "ends a left 0",
                                  "part size 2 2; all 3 4; left 0,1 9 9")
        self.same(answers, ["ok", "ok", "3 5", "0,1"])

    def test_each_command(self):
        console, answers = self.run_all(
            "names", f"keep b {FACTS}", "keep a size 1 3", "names", "facts b", "facts a", "insert b 0 1 3",
            "remove b 1 1 1", "recount b 4 left 0", "recount b 0 cell 1 0", "facts b", "undo b", "facts b", "drop a",
            "names", "ends b all", "ends b -all", "ends b 2 * left 0 + right 1 - cell 1 1", "part size 2 2; all 3 4",
            "part size 2 2")
        self.same(answers, [
            "-", "ok", "ok", "a b", FACTS, "size 1 3", "ok", "ok", "ok", "ok",
            "size 2 2; all 6 8; left 0 4 4; cell 0 1 3 -; cell 1 0 0 0", "ok",
            "size 2 2; all 6 8; left 0 4 4; cell 0 1 3 -", "ok", "b", "6 8", "-8 -6", "11 12", "-", "-"])
        self.assertIsInstance(console.bench, Bench)
        self.assertIs(console.bench, console.bench)
        self.same(console.bench.names(), ["b"])
        self.same(console.bench.book("b").history()[-1], ("recount", ("left", (0,)), 4))
        self.same(console.run(command="names"), "b")
        with self.assertRaises(AttributeError):
            console.bench = Bench()

    def test_ends_without_a_number(self):
        console, _ = self.run_all("keep a size 2 2; left 0 1 2")
        self.same([console.run(f"ends a {question}") for question in ("all", "-all", "left 0", "all - 2 * left 1")],
                  ["1 -", "- -1", "1 2", "- 2"])
        console, _ = self.run_all("keep a size 2 2")
        self.same([console.run(f"ends a {question}") for question in ("cell 0 0 - cell 1 1", "0 * all", "all")],
                  ["- -", "0 0", "0 -"])

    def test_questions_and_wheres_of_all_kinds(self):
        console, _ = self.run_all("keep a size 2 3; all 5 5")
        self.same([console.run(f"ends a {question}") for question in (
            "right 0,2", "block 0,1 0,1,2", "ends 1,2 by 3,0,1", "-right 1 + 2 * cell 1 2 - 0 * all")],
            ["0 5", "5 5", "0 30", "-5 10"])
        for where in ("right 0,2", "cell 1 2", "left 0,1", "all", "right 1"):
            self.same(console.run(f"recount a {5 if where in ('all', 'left 0,1', 'right 0,2') else 0} {where}"), "ok")
        self.same(console.run("facts a"),
                  "size 2 3; all 5 5; right 0,2 5 5; cell 1 2 0 0; left 0,1 5 5; right 1 0 0")

    def test_the_bench_is_the_one_that_is_led(self):
        console, _ = self.run_all(f"keep a {FACTS}")
        book = console.bench.book("a")
        book.insert(1, 1)
        self.same(console.run("facts a"), "size 2 2; all 5 7; left 0 0 2; cell 1 1 1 -")
        console.run("undo a")
        self.same(len(book), 0)
        console.bench.keep("b", book.facts)
        self.same(console.run("names"), "a b")
        with console.bench.trial():
            console.run("insert a 0 0 2")
            console.run("drop b")
            self.same((len(book), console.run("names")), (1, "a"))
        self.same((len(book), console.run("names")), (0, "a b"))
        console.run("drop b")
        console.run(f"keep a {FACTS}")
        self.assertIsNot(console.bench.book("a"), book)
        other = Console()
        self.same((other.run("names"), console.run("names")), ("-", "a"))

    def test_parts(self):
        given = dice(161)
        parts = 0
        for _ in range(60):
            facts = any_facts(given, given.randint(1, 3), given.randint(1, 3), given.randint(0, 7), 4)
            part = least_part(facts)
            parts += part is not None
            self.same(Console().run("part " + write_facts(facts).replace("\n", "; ")),
                      "-" if part is None else ",".join(map(str, part)))
        self.assertGreater(parts, 10)

    def test_facts_and_ends(self):
        given = dice(162)
        for _ in range(40):
            facts = true_facts(given, given.randint(1, 3), given.randint(1, 3), given.randint(0, 6), 10 ** 50)
            question = any_question(given, facts.left, facts.right, 10 ** 9)
            text = write_facts(facts).replace("\n", "; ")
            console, _ = self.run_all(f"keep book {text}")
            self.same(console.run("facts book"), text)
            self.same(console.bench.book("book").facts.listed(), facts.listed())
            expected = ["-" if end is None else str(end) for end in ends(facts, question)]
            self.same(console.run(f"ends book {write_question(question)}"), " ".join(expected))

    def test_books_led_alike_by_hand(self):
        given = dice(163)
        refusals = 0
        for _ in range(20):
            console = Console()
            books = {}
            for name in ("a", "b", "other"):
                facts = true_facts(given, 3, 2, given.randint(0, 5), 4)
                console.run(f"keep {name} " + write_facts(facts).replace("\n", "; "))
                books[name] = Book(facts)
            for _ in range(25):
                name = given.choice(["a", "b"])
                change = any_change(given, books[name], 4)
                if given.random() < 0.2:
                    answers = [told(console.run, f"undo {name}"), told(books[name].undo)]
                else:
                    function = {"insert": books[name].insert, "remove": books[name].remove,
                                "recount": books[name].recount}[change[0]]
                    answers = [told(console.run, command(name, change)), told(function, *change[1:])]
                refusals += answers[0] != "ok"
                self.same(answers[0], "ok" if answers[1] is None else answers[1])
                for kept, book in books.items():
                    self.same(state(console.bench.book(kept)), state(book))
        self.assertGreater(refusals, 30)

    def test_great_numbers(self):
        console, answers = self.run_all(f"keep a size 2 2; all {LONG} {LONG}", f"insert a 0 0 {LONG}",
                                        f"recount a {LONG} cell 0 0", f"ends a {LONG} * cell 0 0", "ends a cell 1 1")
        self.same(answers, ["ok", "ok", "ok", f"{LONG * LONG} {LONG * LONG}", f"0 {LONG}"])
        self.fails(MissingRows, LONG, console.run, f"remove a 0 0 {LONG + 1}")

    def test_twelve_books_and_a_thirteenth(self):
        console, _ = self.run_all(*[f"keep {name} {FACTS}" for name in "abcdefghijkl"])
        self.fails(LimitExceeded, 12, console.run, f"keep m {FACTS}")
        self.same(console.run("names"), "a b c d e f g h i j k l")
        self.same(console.run(f"keep l {FACTS}"), "ok")

    def test_forty_one_facts(self):
        text = "size 8 8" + "".join(f"; cell {at // 8} {at % 8} 0 3" for at in range(40))
        console, _ = self.run_all(f"keep a {text}")
        self.fails(InvalidFact, None, console.run, "insert a 7 7 1")
        self.fails(InvalidFact, None, console.run, "recount a 7 all")
        self.fails(InvalidText, 41, console.run, f"keep a {text}; all 0 3")
        self.fails(InvalidText, 41, console.run, f"part {text}; all 0 3")


class Wrong(Case):

    def setUp(self):
        self.console = Console()
        self.console.run(f"keep a {FACTS}")
        self.console.run("keep all size 3 3; left 0,1 0 5")
        self.console.run("insert a 0 1 2")

    def refuses(self, error, value, *commands):
        for given in commands:
            before = [(name, state(self.console.bench.book(name))) for name in self.console.bench.names()]
            books = [self.console.bench.book(name) for name in self.console.bench.names()]
            self.fails(error, value, self.console.run, given)
            self.same([(name, state(self.console.bench.book(name))) for name in self.console.bench.names()], before)
            for name, book in zip(self.console.bench.names(), books):
                self.assertIs(self.console.bench.book(name), book)

    def test_what_is_no_text_of_words(self):
        self.refuses(InvalidCommand, None, *[value for value in ODD if not isinstance(value, str)], 0, b"names",
                     ["names"], ("names",), "", " ", "names ", " names", "facts  a", "facts a ", "\tnames", "names\n",
                     "facts\ta", "facts\na", "keep b size 2 2\nall 1 2", "ends a  left 0", "ends a left 0 ",
                     "nothing  at all", "nothing\n", "insert a 0 0  1", "keep b size 2 2;  all 1 2", "\n", "\t",
                     "drop nobody ", "keep b size 2 2; ")

    def test_unknown_words(self):
        for given in ("x", "Names", "name", "facts;", "size 2 2", "bench", "copy a", "trial", "attempt", "history a",
                      "applied a", "0", "-", "ok", "all", "a", "unknown a b c d e f", "__init__", "run names"):
            self.refuses(InvalidCommand, given.split(" ")[0], given)

    def test_one_word_too_few_or_too_many(self):
        self.refuses(InvalidCommand, "keep", "keep", "keep a", "keep A")
        self.refuses(InvalidCommand, "drop", "drop", "drop a a", "drop nobody nobody")
        for word in ("insert", "remove"):
            self.refuses(InvalidCommand, word, word, f"{word} a", f"{word} a 0", f"{word} a 0 0", f"{word} x y z",
                         f"{word} a 0 0 1 1", f"{word} nobody x y z 9")
        self.refuses(InvalidCommand, "recount", "recount", "recount a", "recount a 3", "recount nobody x")
        self.refuses(InvalidCommand, "undo", "undo", "undo a a", "undo a 1")
        self.refuses(InvalidCommand, "names", "names a", "names names")
        self.refuses(InvalidCommand, "facts", "facts", "facts a a", "facts nobody nobody")
        self.refuses(InvalidCommand, "ends", "ends", "ends a", "ends nobody")
        self.refuses(InvalidCommand, "part", "part")

    def test_words_in_place_of_integers(self):
        for word in ("x", "-1", "+1", "01", "1.0", "1,0", "-", "a", "0x1", "1_0", "all", "True"):
            for name in ("a", "nobody", "Nobody"):
                for first in ("insert", "remove"):
                    self.refuses(InvalidNumber, word, f"{first} {name} {word} x y", f"{first} {name} 0 {word} -5",
                                 f"{first} {name} 9 9 {word}")
                self.refuses(InvalidNumber, word, f"recount {name} {word} nowhere", f"recount {name} {word} all")

    def test_unknown_names(self):
        for name in ("b", "nobody", "A", "abcdefghi", "a1", "-", "0", "a;", "names"):
            self.refuses(UnknownName, name, f"drop {name}", f"insert {name} 9 9 0", f"remove {name} 0 0 1",
                         f"recount {name} 3 nowhere", f"undo {name}", f"facts {name}", f"ends {name} nothing",
                         f"recount {name} 3 all")
        for name in ("A", "abcdefghi", "a1", "-", "0", "a;"):
            self.refuses(UnknownName, name, f"keep {name} {FACTS}", f"keep {name} nothing",
                         f"keep {name} size 2 2; all 0 1; left 0 2 3")

    def test_texts(self):
        self.refuses(InvalidText, 0, "keep b nothing", "keep a size 2", "keep b size 9 9", "keep b size 2 2;all 0 1",
                     "part all", "part size 0 2; all 0 1", "keep b size 2 2 ; all 0 1", "part size 2 2;")
        self.refuses(InvalidText, 1, "keep a size 2 2; all 2 1; all", "part size 2 2; left 1,0 0 1",
                     "part size 2 2; all 0 1 ; all", "keep b size 2 2; ; all 0 1", "keep b size 2 2; size 2 2")
        self.refuses(InvalidText, 3, "keep b size 3 3; left 0,1 2 3; right 0 0 1; left 1,2 0 4",
                     "part size 3 3; left 0,1 2 3; right 0 0 1; left 1,2 0 4")
        for where in ("nowhere", "all 0", "left", "left 0 1", "left x", "left 0,", "left ,", "cell 0", "cell 0 1 2",
                      "cell 0 x", "right 00", "left -1", "block 0 0", "Left 0", "all;", "0", "cell 0,1 0", "left 0, 1"):
            self.refuses(InvalidText, 0, f"recount a 3 {where}", f"recount a {LONG} {where}")
        self.refuses(InvalidText, 0, "ends a nothing", "ends a left 2", "ends a all +", "ends a left 1,0",
                     "ends a ends 1,2 by 1")
        self.refuses(InvalidText, 1, "ends a all - x", "ends a all - + all", "ends a all + 2 all")

    def test_errors_of_the_functions(self):
        self.refuses(InvalidNumber, 2, "insert a 2 0 0", "insert a 0 2 0", "remove a 2 9 9", "remove a 1 2 0")
        self.refuses(InvalidNumber, 0, "insert a 1 1 0", "remove a 0 0 0")
        self.refuses(MissingRows, 4, "remove a 0 1 5")
        self.refuses(MissingRows, 6, f"remove a 1 1 {LONG}")
        self.refuses(InvalidFact, ("left", (1, 0)), "recount a 3 left 1,0")
        self.refuses(InvalidFact, ("left", (0, 0)), "recount a 3 left 0,0")
        self.refuses(InvalidFact, ("cell", 2, 0), "recount a 3 cell 2 0")
        self.refuses(InvalidFact, ("right", (0, 5)), "recount a 3 right 0,5")
        self.refuses(InvalidFact, (0, 1), "recount all 3 left 1,2")
        self.refuses(Contradictory, (0,), "recount a 5 all", "recount a 9 all")
        self.refuses(Contradictory, (1,), "recount a 5 left 0")
        self.refuses(Contradictory, (0, 3), f"recount a {LONG} right 0")
        self.refuses(Contradictory, (0, 1), "keep b size 2 2; all 0 1; left 0 2 3", "keep a size 2 2; all 0 1; left 0 2 3")
        self.console.run("undo a")
        self.refuses(NothingToUndo, "undo", "undo a", "undo all")
