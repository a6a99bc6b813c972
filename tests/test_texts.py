"""Point 15: how facts and tables are written and read."""

import itertools

from surecounts.errors import InvalidText
from surecounts.facts import Facts
from surecounts.tables import Table
from surecounts.texts import read_facts, read_table, write_facts, write_table
from tests.cases import LONG, ODD, Case

# Each is one row that is not written so, for the sizes 3 and 2.
NO_FACT_ROWS = [
    "", " ", "all", "all 0", "all 0 0 0", "all -", "all - -", "all - 1", "all 1 0", "all -1 0", "all 0 -1", "all 0 +1",
    "all 00 0", "all 0 00", "all 01 2", "all 0 01", "all 0 --", "all 0 ", " all 0 1", "all  0 1", "all 0  1",
    "all 0 1 ", "all\t0 1", "all 0 1\r", "ALL 0 1", "any 0 1", "all x 1", "all 0 x", "all 0 None", "all 1_0 20",
    "all 0 0x1", "all 1.0 2", "all, 0 1", "left 0 1", "left 0", "left  0 1", "left 3 0 1", "left -1 0 1",
    "left 0,0 0 1", "left 1,0 0 1", "left 0,3 0 1", "left 0, 0 1", "left ,0 0 1", "left 0,,1 0 1", "left , 0 1",
    "left 00 0 1", "left 0,01 0 1", "left 0, 1 0 1", "left 0;1 0 1", "left (0,) 0 1", "left 0 1 0 1", "right 2 0 1",
    "right 0,1,2 0 1", "right 0 2 1", "cell 0 0", "cell 0 0 1", "cell 0,0 0 1", "cell 3 0 0 1", "cell 0 2 0 1",
    "cell 0 0 0 0 0", "cell 00 0 0 1", "cell -1 0 0 1", "cell 0 - 0 1", "cell 0 0 1 0", "cell 0 0 - -",
    "x 0 0 1", "x 0 0 0 1", "size 3 2",
    "block 0 0 0 1", "all 0 1;", "0 1", "- 0 1", "all 0 1 -",
]
NO_SIZE_ROWS = [
    "", " ", "size", "size 2", "size 2 2 2", "size 0 2", "size 2 0", "size 9 2", "size 2 9", "size 02 2", "size 2 2 ",
    " size 2 2", "size  2 2", "size 2  2", "size -1 2", "size 2 -", "size 2,2", "Size 2 2", "2 2", "all 0 1",
    "size two 2", "size 2\t2", "size 10 1", "size 1 +2", "size 2 2\r",
]
NO_TABLE_ROWS = ["", " ", "1", "1 2 3", "1  2", " 1 2", "1 2 ", "1 -2", "01 2", "1 00", "1,2",
                 "1 x", "1\t2", "1 +2", "-"]


class FactsTexts(Case):

    def test_example(self):
        text = "size 2 3\nall 4 -\nleft 0 1 2\ncell 1 2 0 5"
        facts = read_facts(text)
        self.same((facts.listed(), write_facts(facts) == text),
                  ([(("all",), 4, None), (("left", (0,)), 1, 2), (("cell", 1, 2), 0, 5)], True))
        self.assertIsInstance(facts, Facts)
        self.same((facts.left, facts.right), (2, 3))

    def test_written(self):
        facts = Facts(8, 1, [(("left", (0, 3, 7)), 0, 0), (("right", (0,)), 10, None), (("cell", 7, 0), 1, LONG)])
        self.same(write_facts(facts), f"size 8 1\nleft 0,3,7 0 0\nright 0 10 -\ncell 7 0 1 {LONG}")
        self.same(write_facts(facts=Facts(1, 8)), "size 1 8")
        self.same(read_facts(text="size 1 8") == Facts(1, 8), True)

    def test_inverse(self):
        wheres = [("all",), ("left", (0,)), ("left", (0, 2)), ("right", (1,)), ("right", (0, 1)), ("cell", 2, 1)]
        limits = [(0, None), (0, 0), (1, 1), (3, 10), (LONG, None), (LONG, LONG + 1), (10, 10 ** 60 - 1)]
        for one, other in itertools.product(itertools.product(wheres, limits), repeat=2):
            facts = Facts(3, 2, [(where, *ends) for where, ends in (one, other)])
            self.same(read_facts(write_facts(facts)) == facts, True)
            text = write_facts(facts)
            self.same(write_facts(read_facts(text)), text)
        for left in range(1, 9):
            for right in range(1, 9):
                given = [(("left", tuple(range(left))), 1, 2), (("cell", left - 1, right - 1), 0, 9)]
                facts = Facts(left, right, given)
                self.same(read_facts(write_facts(facts)) == facts, True)

    def test_numbers_of_many_figures(self):
        number = int("7" * 1000)
        facts = Facts(1, 1, [(("all",), number, number + 1)])
        self.same(read_facts(write_facts(facts)).listed(), facts.listed())

    def test_what_is_no_text(self):
        for value in [*ODD, Facts(1, 1), ["size 1 1"], b"size 1 1"]:
            if not isinstance(value, str):
                self.fails(InvalidText, None, read_facts, value)
                self.fails(InvalidText, None, read_table, value)

    def test_first_row_that_is_not_written_so(self):
        for row in NO_SIZE_ROWS:
            self.fails(InvalidText, 0, read_facts, row)
            self.fails(InvalidText, 0, read_facts, row + "\nall 0 1")
            self.fails(InvalidText, 0, read_facts, row + "\nnone")
        for row in NO_FACT_ROWS:
            self.fails(InvalidText, 1, read_facts, "size 3 2\n" + row)
            self.fails(InvalidText, 3, read_facts, "size 3 2\nall 0 1\nleft 2 0 -\n" + row + "\ncell 0 0 0 1\n\nx")

    def test_newline_at_the_end(self):
        self.fails(InvalidText, 1, read_facts, "size 3 2\n")
        self.fails(InvalidText, 2, read_facts, "size 3 2\nall 0 1\n")
        self.fails(InvalidText, 1, read_facts, "size 3 2\n\nall 0 1")
        self.fails(InvalidText, 0, read_facts, "\nsize 3 2")
        self.fails(InvalidText, 0, read_facts, "size 3 2\rall 0 1")

    def test_later_one_of_the_first_two_that_cross(self):
        rows = ["size 5 5", "all 0 1", "left 0,1 0 1", "right 1,2 0 1", "left 3,4 0 1", "right 0,1 0 1", "left 1,2 0 1"]
        self.fails(InvalidText, 6, read_facts, "\n".join(rows))
        self.fails(InvalidText, 5, read_facts, "\n".join(rows[:6]))
        self.same(len(read_facts("\n".join(rows[:5]))), 4)
        self.fails(InvalidText, 7, read_facts, "\n".join([*rows, "left 1,2 0 0 0"]))
        self.fails(InvalidText, 2, read_facts, "size 3 1\nleft 0,1 0 -\nleft 1,2 0 -")

    def test_forty_first_fact(self):
        rows = ["size 3 2", *["all 0 -"] * 40]
        self.same(len(read_facts("\n".join(rows))), 40)
        self.fails(InvalidText, 41, read_facts, "\n".join([*rows, "all 0 -"]))
        self.fails(InvalidText, 41, read_facts, "\n".join([*rows, "none"]))
        self.fails(InvalidText, 41, read_facts, "\n".join([*rows, "all 0 -", "none"]))
        self.fails(InvalidText, 20, read_facts, "\n".join([*rows[:20], "none", *rows[1:]]))
        crossing = ["size 3 1", "left 0,1 0 1", "left 1,2 0 1", *["all 0 1"] * 39]
        self.fails(InvalidText, 41, read_facts, "\n".join(crossing))
        self.fails(InvalidText, 2, read_facts, "\n".join(crossing[:-1]))


class TableTexts(Case):

    def test_written(self):
        self.same(write_table(Table(((1, 0), (20, 1)))), "1 0\n20 1")
        self.same(write_table(table=Table(((LONG,),))), str(LONG))
        self.same(read_table("1 0\n20 1").counts, ((1, 0), (20, 1)))
        self.assertIsInstance(read_table(text="0"), Table)

    def test_inverse(self):
        for counts in itertools.product((0, 1, 10, LONG), repeat=4):
            for table in (Table((counts[:2], counts[2:])), Table((counts,)), Table((counts,)).turned()):
                self.same(read_table(write_table(table)).counts, table.counts)
        for left in range(1, 9):
            for right in range(1, 9):
                table = Table(tuple(tuple(9 * a + b for b in range(right)) for a in range(left)))
                self.same(read_table(write_table(table)) == table, True)
                self.same(write_table(read_table(write_table(table))), write_table(table))

    def test_first_row_that_is_not_written_so(self):
        for row in NO_TABLE_ROWS:
            if row != "1" and row != "1 2 3":
                self.fails(InvalidText, 0, read_table, row)
                self.fails(InvalidText, 0, read_table, row + "\n1 2\n1")
            self.fails(InvalidText, 2, read_table, "1 2\n3 4\n" + row + "\n5 6\nx")
        self.fails(InvalidText, 2, read_table, "1 2\n3 4\n")
        self.fails(InvalidText, 0, read_table, "\n1 2")

    def test_number_of_words(self):
        self.same(read_table("1 2 3 4 5 6 7 8").right, 8)
        self.fails(InvalidText, 0, read_table, "1 2 3 4 5 6 7 8 9")
        self.fails(InvalidText, 1, read_table, "1 2 3 4 5 6 7 8\n1 2 3 4 5 6 7 8 9")
        self.fails(InvalidText, 1, read_table, "1 2\n1\nx")
        self.fails(InvalidText, 1, read_table, "1\n1 2")

    def test_ninth_row(self):
        rows = ["1 2"] * 8
        self.same(read_table("\n".join(rows)).left, 8)
        self.fails(InvalidText, 8, read_table, "\n".join([*rows, "1 2"]))
        self.fails(InvalidText, 8, read_table, "\n".join([*rows, "x", "x"]))
        self.fails(InvalidText, 8, read_table, "\n".join(rows) + "\n")
        self.fails(InvalidText, 7, read_table, "\n".join([*rows[:7], "x", "1 2"]))
