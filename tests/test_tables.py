"""Point 4 and stage 1: tables, rows, counts and cells."""

import inspect
import itertools

from surecounts.errors import InvalidNumber, InvalidTable, MissingRows
from surecounts.tables import Table
from tests.cases import LONG, ODD, Agreeing, Case

WRONG_SIZES = [0, 9, -1, 10, LONG, *ODD]
NO_COUNTS = [
    *ODD, 5, ((),), ((), ()), ((1,), ()), ((1, 0), (1,)), ((1,), (1, 0)), ((-1,),), ((0, 0), (0, -1)), ((True,),),
    ((0, 1), (False, 1)), ((None,),), (("1",),), [(1,)], ([1],), ((1, 0), [1, 0]), ((1,), 1), (1, 0), "12", ("12",),
    ((0,),) * 9, ((0,) * 9,), ((0,) * 8,) * 9, ((0,) * 9,) * 8, (((0,),),), ((Agreeing(),),), (Agreeing(),),
]
NO_ROWS = [
    *ODD, 0, (0,), (0, 0, 0), (2, 0), (0, 3), (-1, 0), (0, -1), (True, 0), (0, False), [0, 0], (None, 0), ("0", 0),
    ((0,), 0), (0, [0]), (LONG, 0), (Agreeing(), 0), (0, Agreeing()), "00", b"00",
]


class Counts(Case):

    def test_example(self):
        table = Table(((1, 0), (2, 1)))
        self.same(
            (table.total, table.lefts(), table.rights(), (1, 0) in table, (0, 1) in table, (table + table).counts,
             list(table.each())),
            (4, [1, 3], [3, 1], True, False, ((2, 0), (4, 2)), [(0, 0), (1, 0), (1, 0), (1, 1)]))

    def test_sizes_from_one_to_eight(self):
        for left in range(1, 9):
            for right in range(1, 9):
                counts = tuple(tuple(left * a + b for b in range(right)) for a in range(left))
                table = Table(counts)
                self.same((table.left, table.right, table.counts), (left, right, counts))
                self.same(table.total, sum(map(sum, counts)))

    def test_counts_that_are_none(self):
        for value in NO_COUNTS:
            self.fails(InvalidTable, value, Table, value)
            self.fails(InvalidTable, value, Table, counts=value)

    def test_another_table_is_no_counts(self):
        table = Table(((1,),))
        self.fails(InvalidTable, table, Table, table)

    def test_by_name(self):
        self.same(Table(counts=((3,),)).counts, ((3,),))

    def test_empty_and_long_counts(self):
        self.same((Table(((0, 0),)).total, Table(((0, 0),)).lefts(), list(Table(((0, 0),)).each())), (0, [0], []))
        table = Table(((LONG, 1), (0, LONG)))
        self.same((table.total, table.lefts(), table.rights()), (2 * LONG + 1, [LONG + 1, LONG], [LONG, LONG + 1]))

    def test_lists_are_new_ones(self):
        table = Table(((1, 0, 2), (2, 1, 0)))
        self.changed_freely(table.lefts)
        self.changed_freely(table.rights)
        self.same((table.lefts(), table.rights(), table.counts), ([3, 3], [3, 1, 2], ((1, 0, 2), (2, 1, 0))))

    def test_tables_never_change(self):
        table = Table(((1, 0),))
        for name in ("counts", "left", "right", "total"):
            with self.assertRaises(AttributeError):
                setattr(table, name, 7)
        self.same((table.counts, table.left, table.right, table.total), (((1, 0),), 1, 2, 1))


class Count(Case):

    def test_every_cell(self):
        table = Table(((1, 0, 5), (2, 1, 4)))
        for left in range(2):
            for right in range(3):
                self.same(table.count(left, right), table.counts[left][right])
                self.same(table.count(right=right, left=left), table.counts[left][right])

    def test_values_that_are_none(self):
        table = Table(((1, 0, 5), (2, 1, 4)))
        for value in [-1, 3, 8, LONG, *ODD]:
            self.fails(InvalidNumber, value, table.count, value, 0)
            self.fails(InvalidNumber, value, table.count, 1, value)
            self.fails(InvalidNumber, value, table.count, value, "b")
        self.fails(InvalidNumber, 2, table.count, 2, 2)
        self.fails(InvalidNumber, 3, table.count, 1, 3)
        self.fails(InvalidNumber, False, table.count, False, True)


class OfRows(Case):

    def test_any_order_and_any_iterable(self):
        rows = [(1, 0), (0, 0), (1, 1), (1, 0)]
        expected = Table(((1, 0), (2, 1)))
        for order in itertools.permutations(rows):
            self.assertEqual(Table.of_rows(2, 2, list(order)), expected)
        self.assertEqual(Table.of_rows(2, 2, tuple(rows)), expected)
        self.assertEqual(Table.of_rows(2, 2, iter(rows)), expected)
        self.assertEqual(Table.of_rows(2, 2, (row for row in rows)), expected)
        self.assertEqual(Table.of_rows(2, 2, expected.each()), expected)
        self.assertEqual(Table.of_rows(2, 2, {(1, 0), (0, 1)}), Table(((0, 1), (1, 0))))
        self.assertEqual(Table.of_rows(2, 2, {(1, 0): "x", (0, 1): "y"}), Table(((0, 1), (1, 0))))
        self.assertEqual(Table.of_rows(rows=rows, right=2, left=2), expected)

    def test_no_rows_and_all_sizes(self):
        for left in range(1, 9):
            for right in range(1, 9):
                self.same(Table.of_rows(left, right, []).counts, ((0,) * right,) * left)
        table = Table.of_rows(8, 8, [(7, 7), (7, 0), (7, 7)])
        self.same((table.count(7, 7), table.count(7, 0), table.total), (2, 1, 3))

    def test_sizes_come_first(self):
        for size in WRONG_SIZES:
            self.fails(InvalidNumber, size, Table.of_rows, size, 0, [5])
            self.fails(InvalidNumber, size, Table.of_rows, 1, size, [5])
            self.fails(InvalidNumber, size, Table.of_rows, left=8, right=size, rows=[])
        self.fails(InvalidNumber, 0, Table.of_rows, 0, 9, [])
        self.fails(InvalidNumber, 9, Table.of_rows, 8, 9, [])

    def test_first_row_that_is_none(self):
        for row in NO_ROWS:
            self.fails(InvalidTable, row, Table.of_rows, 2, 3, [row])
            self.fails(InvalidTable, row, Table.of_rows, 2, 3, iter([(1, 2), row, (5, 5)]))
        self.fails(InvalidTable, (2, 2), Table.of_rows, 2, 2, [(0, 0), (2, 2), (3, 3)])
        self.fails(InvalidTable, "a", Table.of_rows, 2, 2, "ab")

    def test_what_is_passed_is_not_kept(self):
        rows = [(0, 0)]
        table = Table.of_rows(1, 1, rows)
        rows.append((0, 0))
        self.same(table.counts, ((1,),))


class Rows(Case):

    def test_each_is_a_generator_in_order(self):
        table = Table(((2, 0, 1), (0, 3, 0)))
        self.assertTrue(inspect.isgenerator(table.each()))
        self.same(list(table.each()), [(0, 0), (0, 0), (0, 2), (1, 1), (1, 1), (1, 1)])
        self.assertEqual(Table.of_rows(2, 3, table.each()), table)

    def test_each_gives_the_first_of_very_many(self):
        self.same(next(Table(((0, LONG),)).each()), (0, 1))

    def test_in(self):
        table = Table(((2, 0, 1), (0, LONG, 0)))
        for left in range(-1, 4):
            for right in range(-1, 5):
                there = (left, right) in ((0, 0), (0, 2), (1, 1))
                self.same((left, right) in table, there)

    def test_in_for_any_value(self):
        table = Table(((1, 1, 1), (1, 1, 1)))
        for value in NO_ROWS:
            self.same(value in table, False)

    def test_turned(self):
        table = Table(((2, 0, 1), (0, 3, 0)))
        self.same(table.turned().counts, ((2, 0), (0, 3), (1, 0)))
        self.same((table.turned().left, table.turned().right), (3, 2))
        self.assertEqual(table.turned().turned(), table)
        self.same(table.counts, ((2, 0, 1), (0, 3, 0)))
        self.same((table.turned().lefts(), table.turned().rights()), (table.rights(), table.lefts()))


class Operators(Case):

    def test_plus_minus_and_times(self):
        one = Table(((1, 0, 4), (2, 1, 3)))
        other = Table(((1, 0, 0), (0, 1, 3)))
        self.same((one + other).counts, ((2, 0, 4), (2, 2, 6)))
        self.same((one - other).counts, ((0, 0, 4), (2, 0, 0)))
        self.same((one * 3).counts, ((3, 0, 12), (6, 3, 9)))
        self.same((one * 0).counts, ((0, 0, 0), (0, 0, 0)))
        self.same((one * 1).counts, one.counts)
        self.same((one * LONG).counts, ((LONG, 0, 4 * LONG), (2 * LONG, LONG, 3 * LONG)))
        self.same((one.counts, other.counts), (((1, 0, 4), (2, 1, 3)), ((1, 0, 0), (0, 1, 3))))

    def test_taken_and_put_back(self):
        for counts in itertools.product(range(3), repeat=4):
            other = Table((counts[:2], counts[2:]))
            whole = Table(((2, 5), (2, 2)))
            self.assertEqual((whole - other) + other, whole)
            self.assertEqual((whole + other) - other, whole)
            self.assertEqual((whole - whole).total, 0)

    def test_missing_rows(self):
        one = Table(((1, 0, 4), (2, 1, 3)))
        self.fails(MissingRows, 1, lambda: one - Table(((0, 1, 0), (0, 0, 0))))
        self.fails(MissingRows, 9, lambda: one - Table(((3, 2, 0), (7, 1, 3))))
        self.fails(MissingRows, LONG - 4, lambda: one - Table(((0, 0, LONG), (0, 0, 0))))
        self.same(one.counts, ((1, 0, 4), (2, 1, 3)))

    def test_no_table_of_these_sizes(self):
        one = Table(((1, 0, 4), (2, 1, 3)))
        for other in [*ODD, 0, 5, one.counts, one.turned(), Table(((9, 9, 9),)),
                      Table(((9, 9), (9, 9)))]:
            self.fails(InvalidTable, other, lambda: one + other)
            self.fails(InvalidTable, other, lambda: one - other)

    def test_no_factor(self):
        for other in [*ODD, -1, -LONG, Table(((1,),))]:
            self.fails(InvalidNumber, other, lambda: Table(((1,),)) * other)

    def test_equal(self):
        table = Table(((1, 0), (2, 1)))
        self.same(table == Table(((1, 0), (2, 1))), True)
        self.same(table != Table(((1, 0), (2, 1))), False)
        self.same(table == Table(((1, 0), (2, 2))), False)
        self.same(Table(((0, 0),)) == Table(((0,), (0,))), False)
        self.same(Table(((0,),)) == Table(((0, 0),)), False)
        for other in [*ODD, table.counts]:
            self.same(table == other, False)
            self.same(table != other, True)
