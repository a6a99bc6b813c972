"""Point 5, its first two sentences: what a where is, and for which cells it stands."""

import itertools

from surecounts.errors import InvalidFact, InvalidNumber
from surecounts.wheres import cells, is_where
from tests.cases import LONG, ODD, Agreeing, Case

WRONG_SIZES = [0, 9, -1, LONG, *ODD]

# For the sizes 3 and 2.
WHERES = [
    ("all",), ("left", (0,)), ("left", (2,)), ("left", (0, 2)), ("left", (0, 1, 2)), ("right", (0,)), ("right", (1,)),
    ("right", (0, 1)), ("cell", 0, 0), ("cell", 2, 1),
]
NO_WHERES = [
    *ODD,
    ("all", 0), ("all", ()), ["all"], (["all"],), ("ALL",), ("any",), ("",), ("left",), ("right",), ("cell",),
    ("left", ()), ("left", (3,)), ("right", (2,)), ("left", (-1,)), ("left", (1, 0)), ("left", (1, 1)), ("left", [0]),
    ("left", 0), ("left", 0, 1), ("left", (0,), (1,)), ("right", (0, 1, 2)), ("right", (True,)), ("left", (0, True)),
    ("left", (False,)), ("left", ("0",)), ("left", (None,)), ("left", "01"), ("left", b"\x00\x01"), ("left", {0: 1}),
    ("left", range(2)), ("right", ((0,),)), ["left", (0,)], ("left", (LONG,)), ("left", (0, 0, 1)), ("left", (0, 2, 1)),
    ("cell", 0), ("cell", 0, 0, 0), ("cell", (0, 0)), ("cell", 3, 0), ("cell", 0, 2), ("cell", -1, 0), ("cell", 0, -1),
    ("cell", True, 0), ("cell", 0, False), ("cell", "0", 0), ("cell", 0, None), ["cell", 0, 0], ("cell", 0, (0,)),
    ("any", 0, 0), ("any", (0,)), ("cells", 0, 0), (0, 0), (b"all",), (None,), (Agreeing(),),
    ("left", (Agreeing(),)), ("left", Agreeing()), ("cell", Agreeing(), 0),
    ("cell", 0, Agreeing()), (Agreeing(), (0,)), (Agreeing(), 0, 0), "all", ("left", tuple(range(9))),
]


class IsWhere(Case):

    def test_wheres(self):
        for value in WHERES:
            self.same(is_where(3, 2, value), True)
        self.same(is_where(left=3, right=2, value=("left", (2,))), True)

    def test_no_wheres(self):
        for value in NO_WHERES:
            self.same(is_where(3, 2, value), False)

    def test_sizes_decide(self):
        for left in range(1, 9):
            for right in range(1, 9):
                for value in range(9):
                    self.same(is_where(left, right, ("left", (value,))), value < left)
                    self.same(is_where(left, right, ("right", (value,))), value < right)
                    self.same(is_where(left, right, ("cell", value, 0)), value < left)
                    self.same(is_where(left, right, ("cell", 0, value)), value < right)
                self.same(is_where(left, right, ("left", tuple(range(left)))), True)
                self.same(is_where(left, right, ("right", tuple(range(right + 1)))), False)

    def test_all_sets_of_values(self):
        for many in range(4):
            for values in itertools.product(range(4), repeat=many):
                good = many > 0 and list(values) == sorted(set(values)) and max(values) < 3
                self.same(is_where(3, 1, ("left", values)), good)

    def test_sizes_that_are_none(self):
        for size in WRONG_SIZES:
            self.fails(InvalidNumber, size, is_where, size, 0, ("all",))
            self.fails(InvalidNumber, size, is_where, 8, size, ("all",))
            self.fails(InvalidNumber, size, is_where, 1, size, None)
        self.fails(InvalidNumber, 9, is_where, 9, 0, ("all",))


class Cells(Case):

    def test_cells_of_each_kind(self):
        self.same(cells(2, 3, ("all",)), [(0, 0), (0, 1), (0, 2), (1, 0), (1, 1), (1, 2)])
        self.same(cells(3, 2, ("left", (0, 2))), [(0, 0), (0, 1), (2, 0), (2, 1)])
        self.same(cells(3, 3, ("right", (0, 2))), [(0, 0), (0, 2), (1, 0), (1, 2), (2, 0), (2, 2)])
        self.same(cells(3, 2, ("cell", 2, 1)), [(2, 1)])
        self.same(cells(3, 3, ("cell", 1, 2)), [(1, 2)])
        self.same(cells(1, 1, ("right", (0,))), [(0, 0)])
        self.same(len(cells(8, 8, ("all",))), 64)
        self.same(cells(right=1, where=("left", (1,)), left=8), [(1, 0)])

    def test_list_is_a_new_one(self):
        self.changed_freely(lambda: cells(2, 2, ("left", (1,))))

    def test_errors_and_their_order(self):
        for size in WRONG_SIZES:
            self.fails(InvalidNumber, size, cells, size, 0, ("all",))
            self.fails(InvalidNumber, size, cells, 1, size, None)
        for where in NO_WHERES:
            self.fails(InvalidFact, where, cells, 3, 2, where)
        self.fails(InvalidNumber, 9, cells, 2, 9, "none")
