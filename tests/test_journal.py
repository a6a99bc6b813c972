"""Point 16 and stage 15: journals, written, read, cut off and bent."""

from surecounts.books import Book
from surecounts.errors import Contradictory, InvalidFact, InvalidText, NothingToUndo
from surecounts.facts import Facts
from surecounts.journal import read_journal, write_journal
from tests.cases import LONG, ODD, Case
from tests.samples import dice, true_facts
from tests.test_books import any_change, do, state

EXAMPLE = Facts(2, 2, [(("all",), 4, 6), (("left", (0,)), 0, 2)])
CLASH = Facts(2, 2, [(("cell", 0, 0), 0, 9), (("all",), 0, 1), (("left", (1,)), 2, 3)])
ROWS = ["insert 0 1 3 ", "remove 1 1 1 ", "recount left 0,1 8 ", "recount all 8 ", "recount cell 0 1 4 "]


def number(row):
    """The number of a row, letter by letter as the document has it."""
    total = 0
    for at in range(len(row)):
        total += (at + 1) * ord(row[at])
    return total % 9973


def signed(row):
    return row + "#" + str(number(row)) + "\n"


def example():
    book = Book(EXAMPLE)
    book.insert(0, 1, 3)
    book.remove(1, 1)
    book.recount(("left", (0, 1)), 8)
    book.recount(("all",), 8)
    book.recount(("cell", 0, 1), 4)
    return book


def any_book(given, changes):
    """A book with some changes."""
    book = Book(true_facts(given, 3, 2, given.randint(0, 5), given.choice([3, 10 ** 50])))
    while len(book) < changes:
        do(book, any_change(given, book, given.choice([3, 10 ** 50])))
    return book


def behind(facts, history):
    """The book of these facts behind these changes, done by hand."""
    book = Book(facts)
    for change in history:
        do(book, change)
    return book


class Written(Case):

    def test_rows_and_numbers(self):
        self.same(write_journal(example()), "".join(map(signed, ROWS)))
        self.same(write_journal(book=example()), "".join(map(signed, ROWS)))
        self.same(write_journal(Book(EXAMPLE)), "")
        book = Book(Facts(1, 1))
        book.insert(0, 0)
        # 105 + 2 * 110 + 3 * 115 + .. of the 13 characters "insert 0 0 1 ".
        self.same(write_journal(book), "insert 0 0 1 #5072\n")
        book.undo()
        book.recount(("right", (0,)), LONG)
        self.same(write_journal(book), signed(f"recount right 0 {LONG} "))

    def test_what_was_undone_is_not_written(self):
        book = example()
        book.undo()
        book.undo()
        self.same(write_journal(book), "".join(map(signed, ROWS[:3])))

    def test_read_back(self):
        given = dice(151)
        for _ in range(30):
            book = any_book(given, given.randint(0, 8))
            facts = book.facts
            for _ in range(len(book)):
                earlier = book.copy()
                while len(earlier) > 0:
                    earlier.undo()
                facts = earlier.facts
            text = write_journal(book)
            other, many, why = read_journal(facts, text)
            self.same((other == book, many, why), (True, len(book), "end"))
            self.same(state(other), state(book))
            self.same(write_journal(other), text)


class Read(Case):

    def reads(self, text, many, why, rows=ROWS, facts=EXAMPLE):
        """The text is read so far, and the book is that of the good rows."""
        told = read_journal(facts, text)
        self.same((told.__class__, len(told), told[1:]), (tuple, 3, (many, why)))
        self.assertIsInstance(told[0], Book)
        self.same(write_journal(told[0]), "".join(map(signed, rows[:many])))
        self.same(len(told[0]), many)
        return told[0]

    def test_an_empty_journal(self):
        book = self.reads("", 0, "end")
        self.same(book == Book(EXAMPLE), True)
        self.same(read_journal(text="", facts=EXAMPLE)[1:], (0, "end"))

    def test_cut_off_after_each_character(self):
        text = "".join(map(signed, ROWS))
        places = [0]
        for row in ROWS:
            places.append(places[-1] + len(signed(row)))
        for cut in range(len(text) + 1):
            many = sum(place <= cut for place in places) - 1
            self.reads(text[:cut], many, "end" if cut in places else "torn")
        self.same(example() == self.reads(text, 5, "end"), True)

    def test_torn_whatever_it_is(self):
        good = signed(ROWS[0])
        for rest in ("x", " ", "#", signed(ROWS[1])[:-1], "insert", "insert 9 9 9 #1", "recount", "\t", ROWS[1]):
            self.reads(good + rest, 1, "torn")
            self.reads(rest, 0, "torn")

    def test_rows_not_written_so(self):
        good = signed(ROWS[0])
        bad = ["", " ", "#0", "insert 0 1 3", "insert 0 1 3 ", "insert 0 1 3 #", "insert 0 1 3 # 5", "insert 0 1 3 5",
               "insert 0 1 #5", "insert 0 1 3 4 #5", "insert  0 1 3 #5", " insert 0 1 3 #5", "insert 0 1 3  #5",
               "insert 0 1 3 #5 ", "insert 0 1 -3 #5", "insert 0 1 +3 #5", "insert 00 1 3 #5", "insert 0 1 3 #05",
               "insert 0 1 3 #-5", "insert 0 1 3 #5a", "insert 0 1 3 ##5", "insert 0 1 x #5", "Insert 0 1 3 #5",
               "insert 0,1 1 3 #5", "undo #5", "insert\t0 1 3 #5", "recount #5", "recount 3 #5", "recount all #5",
               "recount left 0 #5", "recount left 0,a 3 #5", "recount left 0, 3 #5", "recount left ,0 3 #5",
               "recount left 3 #5", "recount cell 0 3 #5", "recount cell 0 1 2 3 #5", "recount all 0 3 #5",
               "recount left 0 -3 #5", "recount left 0 - #5", "recount block 0 0 3 #5", "recount left  3 #5",
               "remove 0 1 03 #5", "remove 0 1 3 #1.0", "recount right 01 3 #5", "recount cell 0,1 0 3 #5", "#5",
               "insert 0 1 3 #0x5", "3 #5", "recount cell 0 a 3 #5", "insert 0 1 3 5#", "size 2 2 #5",
               "count all 3 #5", "recounts left 0 3 #5", "undo all 3 #5", "insert left 0 3 #5", "left 0 3 #5",
               "inserts 0 1 3 #5", "recount 0 1 3 #5", "recount all recount #5"]
        for row in bad:
            self.reads(good + row + "\n", 1, "form")
            self.reads(row + "\n", 0, "form")
            self.reads(good + row + "\n" + signed(ROWS[1]), 1, "form")

    def test_a_wrong_number(self):
        good = signed(ROWS[0])
        for row in (ROWS[1], "remove 9 9 9 ", "insert 0 0 0 ", "recount left 1,0 3 ", "recount cell 9 9 3 "):
            right = number(row)
            for other in (right - 1, right + 1, right + 9973, 0, 9973, LONG):
                self.reads(good + row + "#" + str(other) + "\n", 1, "sum")
        # The number is that of the row ahead of the sign, with the space.
        self.reads("insert 0 1 3 #" + str(number("insert 0 1 3")) + "\n", 0, "sum")
        self.reads(good.replace("3", "4", 1), 0, "sum")
        self.reads(good.replace("0 1", "1 0", 1), 0, "sum")

    def test_changes_that_the_book_refuses(self):
        good = signed(ROWS[0])
        bad = ["insert 2 0 1 ", "insert 0 2 1 ", "insert 0 0 0 ", "remove 0 0 0 ", "remove 9 0 1 ",
               f"insert {LONG} 0 1 ", "remove 0 1 9 ", "recount left 1,0 3 ", "recount left 0,0 3 ",
               "recount left 2 3 ", "recount cell 2 0 3 ", "recount cell 0 2 1 ", "recount left 0 99 ",
               "recount right 0,2 3 ", "recount all 0 ", f"recount all {LONG} ", "recount cell 0 1 2 "]
        for row in bad:
            self.reads(good + signed(row), 1, "change")
            self.reads(good + signed(row) + signed(ROWS[1]), 1, "change")
            self.reads(good + signed(row)[:-1], 1, "torn")
        full = Facts(8, 8, [(("cell", at // 8, at % 8), 0, 3) for at in range(40)])
        for row in ("insert 7 7 1 ", "recount all 5 "):
            self.reads(signed(row), 0, "change", [], full)
        three = Facts(3, 3, [(("left", (0, 1)), 0, 9)])
        self.reads(signed("recount left 1,2 3 "), 0, "change", [], three)

    def test_each_character_bent(self):
        text = "".join(map(signed, ROWS))
        starts = [0]
        for row in ROWS:
            starts.append(starts[-1] + len(signed(row)))
        for at in range(len(text)):
            line = sum(start <= at for start in starts) - 1
            for sign in "0 9#,a-\n":
                bent = text[:at] + sign + text[at + 1:]
                if bent != text:
                    _, many, why = read_journal(EXAMPLE, bent)
                    # A newline that is bent joins the last row to nothing that ends it.
                    self.assertIn((many, why), [(line, "form"), (line, "sum")]
                                  + ([(line, "torn")] if line == 4 and at == len(text) - 1 else [])
                                  + ([(line, "form")] if sign == "\n" else []))

    def test_rows_left_out_doubled_or_exchanged(self):
        rows = list(map(signed, ROWS))
        self.reads("".join(rows[1:]), 1, "change", ROWS[1:])
        twice = [ROWS[0], ROWS[0], *ROWS[1:]]
        book, many, why = read_journal(EXAMPLE, "".join(map(signed, twice)))
        self.same((many, why), (3, "change"))
        self.same(book == behind(EXAMPLE, [("insert", 0, 1, 3), ("insert", 0, 1, 3), ("remove", 1, 1, 1)]), True)
        self.reads(rows[0] + "\n" + rows[1], 1, "form")
        self.reads("\n" + rows[0], 0, "form")
        self.reads("\n", 0, "form")
        self.reads("".join(rows) + "\n", 5, "form")

    def test_a_book_that_was_read_goes_on(self):
        text = "".join(map(signed, ROWS))
        book = self.reads(text[:-3], 4, "torn")
        book.recount(("cell", 0, 1), 4)
        self.same(write_journal(book), text)
        other = self.reads(text, 5, "end")
        for many in range(4, -1, -1):
            other.undo()
            self.same(write_journal(other), "".join(map(signed, ROWS[:many])))
        self.same(other == Book(EXAMPLE), True)
        self.fails(NothingToUndo, "undo", other.undo)

    def test_good_rows_lead_to_what_is_done_by_hand(self):
        given = dice(152)
        for _ in range(20):
            book = any_book(given, 6)
            start = book.copy()
            while len(start) > 0:
                start.undo()
            text = write_journal(book)
            cut = given.randint(0, len(text))
            many = text[:cut].count("\n")
            found = read_journal(start.facts, text[:cut])
            self.same(found[1:], (many, "end" if cut == 0 or text[cut - 1] == "\n" else "torn"))
            self.same(found[0] == behind(start.facts, book.history()[:many]), True)

    def test_great_numbers(self):
        text = signed(f"insert 0 1 {LONG} ") + signed(f"remove 0 1 {LONG - 1} ") + signed(f"recount all {10 ** 59 - 1} ")
        book, many, why = read_journal(Facts(2, 2), text)
        self.same((many, why), (3, "end"))
        self.same(book.facts.listed(), [(("cell", 0, 1), 1, None), (("all",), 10 ** 59 - 1, 10 ** 59 - 1)])
        self.same(write_journal(book), text)

    def test_the_facts_are_left_as_they_are(self):
        facts = Facts(2, 2, EXAMPLE.listed())
        read_journal(facts, "".join(map(signed, ROWS)))
        self.same(facts == EXAMPLE, True)


class Wrong(Case):

    def test_facts(self):
        for value in [*ODD, 0, EXAMPLE.listed(), Book(EXAMPLE)]:
            self.fails(InvalidFact, value, read_journal, value, None)
            self.fails(InvalidFact, value, read_journal, value, "")
        self.fails(Contradictory, (1, 2), read_journal, CLASH, None)
        self.fails(Contradictory, (1, 2), read_journal, CLASH, "")

    def test_values_that_are_no_texts(self):
        for value in [value for value in ODD if not isinstance(value, str)] + [0, b"", ["insert"], EXAMPLE]:
            self.fails(InvalidText, None, read_journal, EXAMPLE, value)
