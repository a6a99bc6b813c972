"""Points 15 and 6: how questions are written and read."""

import itertools

from surecounts.errors import InvalidNumber, InvalidText
from surecounts.language import read_question, write_question
from surecounts.questions import Question
from surecounts.tables import Table
from tests.cases import LONG, ODD, Case

# Each is one part that is not written so, for the sizes 3 and 2.
NO_PARTS = [
    "", " ", "x", "ALL", "all ", " all", "all 0", "al", "left", "left ", "left  0", "left 0 1", "left 3", "left -1",
    "left 1,0", "left 0,0", "left 0,", "left ,", "left ,0", "left 0,,1", "left 00", "left 0,01", "left x", "left (0,)",
    "left 0, 1", "left all", "right", "right 2", "right 0,1,2", "right 1,0", "cell", "cell 0", "cell 0 0 0", "cell 0,0",
    "cell 3 0", "cell 0 2", "cell 00 0", "cell -1 0", "cell 0  0", "cell 0 0 ", "block", "block 0", "block 0 2",
    "block 3 0", "block 1,0 0", "block 0 1,0", "block 0,0 0", "block 0 0 0", "block 0,1,2,3 0", "block  0 0",
    "block x 0", "block 0 ,", "ends", "ends 1,2,3", "ends 1,2,3 1,2", "ends 1,2,3 by", "ends 1,2,3 by 1",
    "ends 1,2,3 by 1,2,3", "ends 1,2 by 1,2", "ends 1,2,3,4 by 1,2", "ends 1,2,3 by 1,-2", "ends 1,2,03 by 1,2",
    "ends 1,2,x by 1,2", "ends 1,2,3 BY 1,2", "ends 1,2,3  by 1,2", "ends 1,2,3 by 1,2,", "ends 1,2,3 by 1,2 by 1,2",
    "ends by 1,2", "end 1,2,3 by 1,2", "blocks 0 0", "cells 0 0", "lefts 0",
    "all+all", "all +all", "all+ all", "all-all", "all\nall", "all\tall", "5", "size 3 2", "- all",
    "all 0 1",
]
# Each is one amount that is not written so.
NO_AMOUNTS = ["", " ", "02", "00", "+2", "x", "1,2", "2 ", " 2", "2 * 2", "all", "1_0", "0x1", "1.0", "- 2"]


def question(text):
    return read_question(3, 2, text)


class Parts(Case):

    def test_example(self):
        asked = read_question(2, 2, "left 0 + 2 * cell 1 1")
        self.same((asked.weights, write_question(asked)),
                  (((1, 1), (0, 2)), "cell 0 0 + cell 0 1 + 2 * cell 1 1"))
        self.assertIsInstance(asked, Question)

    def test_each_part(self):
        self.same(question("all").weights, ((1, 1), (1, 1), (1, 1)))
        self.same(question("left 1").weights, ((0, 0), (1, 1), (0, 0)))
        self.same(question("left 0,2").weights, ((1, 1), (0, 0), (1, 1)))
        self.same(question("right 1").weights, ((0, 1), (0, 1), (0, 1)))
        self.same(question("right 0,1").weights, ((1, 1), (1, 1), (1, 1)))
        self.same(question("cell 2 1").weights, ((0, 0), (0, 0), (0, 1)))
        self.same(question("block 0,2 1").weights, ((0, 1), (0, 0), (0, 1)))
        self.same(question("block 1 0,1").weights, ((0, 0), (1, 1), (0, 0)))
        self.same(question("ends 0,2,3 by 5,7").weights, ((0, 0), (10, 14), (15, 21)))
        self.same(question(f"ends {LONG},0,1 by 1,10").weights, ((LONG, 10 * LONG), (0, 0), (1, 10)))

    def test_amounts(self):
        for part in ("all", "left 0,2", "right 1", "cell 2 1", "block 0,2 1", "ends 0,2,3 by 5,7"):
            for amount in (0, 1, 2, 10, LONG):
                self.same(question(f"{amount} * {part}") == question(part) * amount, True)
                self.same(question(f"-{amount} * {part}") == question(part) * -amount, True)
            self.same(question(f"-{part}") == -question(part), True)

    def test_signs(self):
        self.same(question("all - left 0").weights, ((0, 0), (1, 1), (1, 1)))
        self.same(question("-all + left 0 - 2 * right 1 + 3 * cell 2 1").weights, ((0, -2), (-1, -3), (-1, 0)))
        parts = ["all", "2 * left 0,2", "ends 1,0,2 by 3,1"]
        for signs in itertools.product((1, -1), repeat=3):
            text = ("-" if signs[0] < 0 else "") + parts[0]
            total = question(parts[0]) * signs[0]
            for sign, part in zip(signs[1:], parts[1:]):
                text += (" + " if sign > 0 else " - ") + part
                total = total + question(part) * sign
            self.same(question(text) == total, True)

    def test_by_name_and_all_sizes(self):
        self.same(read_question(text="all", right=1, left=2).weights, ((1,), (1,)))
        for left in range(1, 9):
            for right in range(1, 9):
                self.same(read_question(left, right, "all").weights, ((1,) * right,) * left)
                where = ("cell", left - 1, right - 1)
                asked = read_question(left, right, f"cell {left - 1} {right - 1}")
                self.same(asked == Question.at(left, right, where), True)

    def test_numbers_for_tables(self):
        table = Table(((3, 1), (0, 2), (4, 9)))
        self.same(question("all")(table), 19)
        self.same(question("left 0,2 - right 1")(table), 17 - 12)
        self.same(question("-2 * cell 2 1 + block 0,1 0")(table), -18 + 3)
        self.same(question("ends 1,2,3 by 1,10")(table), 3 + 10 + 40 + 12 + 270)


class Errors(Case):

    def test_sizes_come_first(self):
        for size in [0, 9, -1, LONG, *ODD]:
            self.fails(InvalidNumber, size, read_question, size, 0, None)
            self.fails(InvalidNumber, size, read_question, 8, size, None)
            self.fails(InvalidNumber, size, read_question, 1, size, "none")

    def test_what_is_no_text(self):
        for value in [*ODD, 5, b"all", ["all"], Question(((1,),))]:
            if not isinstance(value, str):
                self.fails(InvalidText, None, read_question, 3, 2, value)

    def test_parts_that_are_none(self):
        for part in NO_PARTS:
            self.fails(InvalidText, 0, question, part)
            self.fails(InvalidText, 0, question, "2 * " + part)
            self.fails(InvalidText, 0, question, "-" + part)
            self.fails(InvalidText, 1, question, "all - " + part)
            self.fails(InvalidText, 2, question, "all + 2 * left 0 - " + part + " + x")

    def test_amounts_that_are_none(self):
        for amount in NO_AMOUNTS:
            self.fails(InvalidText, 0, question, amount + " * all")
            self.fails(InvalidText, 1, question, "all + " + amount + " * all + x")
        for term in ("2*all", "2 *all", "2* all", "2 all", "2  * all", "2 *  all", "2 * ", "* all", " * ", "all * 2"):
            self.fails(InvalidText, 0, question, term)

    def test_a_sign_has_both_its_spaces_and_is_found_from_the_left(self):
        self.fails(InvalidText, 0, question, "all +")
        self.fails(InvalidText, 0, question, "all -")
        self.fails(InvalidText, 1, question, "all + ")
        self.fails(InvalidText, 1, question, "all - + all")
        self.fails(InvalidText, 1, question, "all + - all")
        self.fails(InvalidText, 1, question, "all - - all")
        self.fails(InvalidText, 1, question, "all +  + all")
        self.fails(InvalidText, 2, question, "all + all + + all")
        self.fails(InvalidText, 1, question, "all +  all")
        self.fails(InvalidText, 0, question, "all  + all")
        self.fails(InvalidText, 0, question, " + all")
        self.fails(InvalidText, 0, question, " - all")
        self.fails(InvalidText, 0, question, " + ")
        self.fails(InvalidText, 0, question, " +  + all")

    def test_minus_directly_ahead_of_the_first_term_alone(self):
        self.fails(InvalidText, 0, question, "- all")
        self.fails(InvalidText, 0, question, "--all")
        self.fails(InvalidText, 0, question, "-")
        self.fails(InvalidText, 0, question, "+all")
        self.fails(InvalidText, 0, question, "+ all")
        self.fails(InvalidText, 0, question, "2 * -all")
        self.fails(InvalidText, 1, question, "all + -all")
        self.fails(InvalidText, 1, question, "all - -2 * all")


class Writing(Case):

    def test_written(self):
        for weights, text in [
                (((0,),), "0 * all"), (((0, 0), (0, 0)), "0 * all"), (((1,),), "cell 0 0"), (((-1,),), "-cell 0 0"),
                (((-2, 1), (0, -1)), "-2 * cell 0 0 + cell 0 1 - cell 1 1"), (((0, 0), (0, 3)), "3 * cell 1 1"),
                (((0, -1), (-7, 0)), "-cell 0 1 - 7 * cell 1 0"), (((LONG,), (-LONG,)),
                                                                   f"{LONG} * cell 0 0 - {LONG} * cell 1 0")]:
            self.same(write_question(Question(weights)), text)
            self.same(write_question(question=Question(weights)), text)

    def test_read_back(self):
        for numbers in itertools.product((-LONG, -2, -1, 0, 1, 10), repeat=4):
            for asked in (Question((numbers[:2], numbers[2:])), Question((numbers,))):
                text = write_question(asked)
                self.same(read_question(asked.left, asked.right, text) == asked, True)
        full = Question(tuple(tuple(8 * a - b for b in range(8)) for a in range(8)))
        self.same(read_question(8, 8, write_question(full)) == full, True)

    def test_numbers_of_many_figures(self):
        number = int("7" * 1000)
        self.same(read_question(1, 1, write_question(Question(((-number,),)))).weights, ((-number,),))

    def test_text_of_fifty_thousand_characters(self):
        text = "all" + " - 2 * all + 3 * all" * 2200
        self.same(read_question(8, 8, text).weights, ((2201,) * 8,) * 8)
