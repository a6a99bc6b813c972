"""Points 3 (d), (g), 9 and stage 7: what is known of the heights of a bucket, exactly."""

import itertools

from surecounts.errors import Contradictory, InvalidNumber, InvalidSpread
from surecounts.facts import Facts
from surecounts.spreads import Spread, level, steep
from tests.cases import LONG, ODD, Agreeing, Case
from tests.samples import all_heights, any_spread, any_told, dice, fits, told

NO_LIMITS = [value for value in ODD if value is not None] + [
    None, 3, (1,), (1, 2, 3), [1, 2], (2, 1), (-1, 2), (-2, -1), (True, 2), (0, True), (False, 0), (0, None), (None, 1),
    (0, 1.0), ("0", "1"), ((0,), 1), (Agreeing(), 1), (1, Agreeing()), (LONG, LONG - 1)]
NO_MOST = [value for value in ODD if value is not None] + [0, -1, -LONG, 1.0, (1,)]


def behind_a_change(spread, name, known):
    """What a spread is made of behind a row more or less, word by word as the document has it."""
    size, (low, high), (fewest, greatest), most = spread
    if name == "grown":
        different = {None: (fewest, greatest + 1), True: (fewest, greatest), False: (fewest + 1, greatest + 1)}[known]
        return (size, (low + 1, high + 1), different, most if known is False or most is None else most + 1)
    fewer = max(0, fewest - 1)
    different = {None: (fewer, greatest), True: (fewer, greatest - 1), False: (fewest, greatest)}[known]
    return (size, (max(0, low - 1), high - 1), different, most)


class Heights(Case):

    def test_example(self):
        self.same((steep(10, 3, 4), level(10, 3)), ((4, 4, 2), (4, 3, 3)))
        self.same((steep(most=4, different=3, rows=10), level(different=3, rows=10)), ((4, 4, 2), (4, 3, 3)))
        self.same(steep(10, 3), (8, 1, 1))

    def test_all_small_ones(self):
        for rows, different, most in itertools.product(range(8), range(5), [None, 1, 2, 3, 7, 9]):
            possible = [heights for heights in itertools.product(range(1, rows + 1), repeat=different)
                        if sum(heights) == rows and list(heights) == sorted(heights, reverse=True)
                        and (most is None or max(heights, default=0) <= most)]
            if different == 0:
                possible = [()] if rows == 0 else []
            if not possible:
                self.fails(InvalidSpread, (rows, different, most), steep, rows, different, most)
                if most is None:
                    self.fails(InvalidSpread, (rows, different), level, rows, different)
                continue
            heights = steep(rows, different, most)
            self.assertIn(heights, possible)
            top = rows if most is None else most
            self.assertLessEqual(len([height for height in heights if 1 < height < top]), 1)
            self.same(heights, max(possible))
            if most is None:
                found = level(rows, different)
                self.assertIn(found, possible)
                self.same(found, min(possible))
                self.assertTrue(not found or found[0] - found[-1] <= 1)

    def test_sixty_four_values_and_great_numbers(self):
        self.same(steep(LONG, 64), (LONG - 63,) + (1,) * 63)
        self.same(steep(64, 64, 1), (1,) * 64)
        self.same(steep(64 * LONG, 64, LONG), (LONG,) * 64)
        self.same(steep(64 * LONG - 1, 64, LONG), (LONG,) * 63 + (LONG - 1,))
        self.same(steep(63 * LONG + 1, 64, LONG), (LONG,) * 63 + (1,))
        self.same(steep(62 * LONG + 2, 64, LONG), (LONG,) * 62 + (1, 1))
        self.same(steep(62 * LONG + 3, 64, LONG), (LONG,) * 62 + (2, 1))
        self.same(level(64 * LONG + 5, 64), (LONG + 1,) * 5 + (LONG,) * 59)
        self.same(level(64, 64), (1,) * 64)
        self.same((steep(0, 0), steep(0, 0, 1), level(0, 0)), ((), (), ()))

    def test_what_is_not_possible(self):
        for rows, different, most in ((LONG, 0, None), (63, 64, None), (65, 64, 1), (64 * LONG + 1, 64, LONG),
                                      (0, 1, None), (1, 0, 5), (5, 2, 2)):
            self.fails(InvalidSpread, (rows, different, most), steep, rows, different, most)
        for rows, different in ((LONG, 0), (63, 64), (0, 1)):
            self.fails(InvalidSpread, (rows, different, None), steep, rows, different)
            self.fails(InvalidSpread, (rows, different), level, rows, different)

    def test_numbers_that_are_none(self):
        for value in [*ODD, -1, -LONG, 1.0]:
            self.fails(InvalidNumber, value, steep, value, -1, 0)
            self.fails(InvalidNumber, value, steep, 3, value, 0)
            self.fails(InvalidNumber, value, level, value, -1)
            self.fails(InvalidNumber, value, level, 3, value)
        for value in (65, LONG):
            self.fails(InvalidNumber, value, steep, LONG, value)
            self.fails(InvalidNumber, value, level, LONG, value)
        for value in NO_MOST:
            self.fails(InvalidNumber, value, steep, 0, 5, value)
            self.fails(InvalidNumber, value, steep, 5, 5, value)


class Making(Case):

    def test_what_it_was_made_of(self):
        for given in ((1, (0, 0), (0, 0), None), (64, (3, LONG), (1, 64), LONG), (5, (0, 9), (2, 70), 1),
                      (64, (64, 64), (64, 64), 1), (1, (LONG, LONG), (0, LONG), None)):
            spread = Spread(*given)
            self.same((spread.size, spread.rows, spread.different, spread.most), given)
        self.same(Spread(2, (0, 1), (0, 1)).most, None)
        self.same(told(Spread(most=2, different=(1, 2), rows=(0, 3), size=4)), (4, (0, 3), (1, 2), 2))

    def test_a_spread_never_changes(self):
        spread = Spread(2, (0, 1), (0, 1))
        for name in ("size", "rows", "different", "most"):
            with self.assertRaises(AttributeError):
                setattr(spread, name, 1)

    def test_sizes_that_are_none(self):
        for size in [*ODD, 0, -1, 65, LONG, 1.0]:
            self.fails(InvalidNumber, size, Spread, size, (0, 1), (0, 1))
            self.fails(InvalidNumber, size, Spread, size, None, None, 0)

    def test_the_first_that_is_none(self):
        for value in NO_LIMITS:
            self.fails(InvalidSpread, value, Spread, 2, value, (0, 1))
            self.fails(InvalidSpread, value, Spread, 2, value, None, 0)
            self.fails(InvalidSpread, value, Spread, 2, (0, 1), value)
            self.fails(InvalidSpread, value, Spread, 2, (5, 5), value, 0)
        for value in NO_MOST:
            self.fails(InvalidSpread, value, Spread, 2, (0, 1), (0, 1), value)
            self.fails(InvalidSpread, value, Spread, 2, (5, 5), (0, 0), value)

    def test_contradictory(self):
        for given in ((2, (1, 5), (3, 4), None), (2, (5, 6), (0, 2), 2), (3, (0, 1), (2, 3), None), (1, (1, 1), (0, 0), 4),
                      (64, (65, LONG), (0, 64), 1), (64, (0, LONG), (65, LONG), None)):
            self.fails(Contradictory, given, Spread, *given)

    def test_contradictory_exactly_if_there_are_no_heights(self):
        given = dice(31)
        seen = {True: 0, False: 0}
        for _ in range(600):
            made = any_told(given, given.randint(1, 4), 5)
            possible = all_heights(made)
            seen[bool(possible)] += 1
            if possible:
                self.same(told(Spread(*made)), made)
            else:
                self.fails(Contradictory, made, Spread, *made)
        self.assertGreater(min(seen.values()), 100, seen)

    def test_equal(self):
        one = Spread(3, (1, 4), (1, 2), 3)
        self.same((one == Spread(3, (1, 4), (1, 2), 3), one != Spread(3, (1, 4), (1, 2), 3)), (True, False))
        for other in (Spread(4, (1, 4), (1, 2), 3), Spread(3, (0, 4), (1, 2), 3), Spread(3, (1, 5), (1, 2), 3),
                      Spread(3, (1, 4), (0, 2), 3), Spread(3, (1, 4), (1, 3), 3), Spread(3, (1, 4), (1, 2), 4),
                      Spread(3, (1, 4), (1, 2)), *ODD, (3, (1, 4), (1, 2), 3), Facts(3, 1)):
            if not isinstance(other, Agreeing):
                self.same((one == other, one != other), (False, True))


class Fitting(Case):

    def test_in(self):
        given = dice(32)
        for _ in range(60):
            spread = any_spread(given, given.randint(1, 3), 5)
            for heights in itertools.product(range(7), repeat=spread.size):
                self.same(heights in spread, fits(told(spread), heights))

    def test_any_value(self):
        spread = Spread(3, (1, 4), (1, 3), 2)
        self.same((2, 1, 0) in spread, True)
        for value in [*ODD, 3, [2, 1, 0], (2, 1), (2, 1, 0, 0), (2, True, 0), (2, 1, False), (2, 1, None), (3, -1, 0),
                      (2, 1, "0"), (2, 1, 0.0), (2, 1, (0,)), ((2, 1, 0),), (2, 1, Agreeing()), spread, (3, 1, 0),
                      (2, 2, 1), (0, 0, 0), iter((2, 1, 0))]:
            self.same(value in spread, False)

    def test_long_heights(self):
        spread = Spread(64, (LONG, LONG), (64, 64))
        self.same((LONG - 63,) + (1,) * 63 in spread, True)
        self.same((LONG - 62,) + (1,) * 62 + (0,) in spread, False)
        self.same((LONG - 62,) + (1,) * 63 in spread, False)

    def test_pairs_and_narrowed(self):
        given = dice(33)
        for _ in range(300):
            spread = any_spread(given, given.randint(1, 4), 5)
            possible = all_heights(told(spread))
            found = {}
            for heights in possible:
                found.setdefault(sum(height > 0 for height in heights), []).append(sum(heights))
            self.same(list(spread.pairs()), [(many, min(found[many]), max(found[many])) for many in sorted(found)])
            self.same(told(spread.narrowed()), (spread.size, (min(map(sum, possible)), max(map(sum, possible))),
                                                (min(found), max(found)), spread.most))

    def test_pairs_example(self):
        self.same(list(Spread(4, (3, 5), (2, 3), 2).pairs()), [(2, 3, 4), (3, 3, 5)])
        self.same(list(Spread(1, (0, 3), (0, 9)).pairs()), [(0, 0, 0), (1, 1, 3)])
        self.same(list(Spread(64, (LONG, LONG), (63, LONG)).pairs()), [(63, LONG, LONG), (64, LONG, LONG)])
        self.same(list(Spread(64, (0, LONG), (0, 64), 1).pairs()), [(many, many, many) for many in range(65)])
        self.same(told(Spread(64, (0, LONG), (3, 64), 2).narrowed()), (64, (3, 128), (3, 64), 2))

    def test_greatest_and_least_in(self):
        given = dice(34)
        for _ in range(200):
            spread = any_spread(given, given.randint(1, 4), 5)
            possible = all_heights(told(spread))
            for many in range(spread.size + 1):
                sums = [sum(heights[:many]) for heights in possible]
                for function, expected in ((spread.greatest_in, max(sums)), (spread.least_in, min(sums))):
                    number, heights = function(many)
                    self.same(number, expected)
                    self.same((sum(heights[:many]), heights.__class__), (number, tuple))
                    self.assertTrue(fits(told(spread), heights))

    def test_greatest_and_least_in_example(self):
        spread = Spread(5, (10, 10), (3, 3))
        self.same((spread.greatest_in(2)[0], spread.least_in(4)[0]), (9, 2))
        self.same((spread.greatest_in(many=0)[0], spread.least_in(many=5)[0]), (0, 10))

    def test_great_ones_in(self):
        spread = Spread(64, (LONG, 2 * LONG), (10, 64), LONG // 20)
        self.same((spread.greatest_in(3)[0], spread.least_in(44)[0]), (3 * (LONG // 20), LONG - LONG // 20 * 20))
        self.same(spread.greatest_in(64)[0], 2 * LONG)
        self.same(spread.least_in(64)[0], LONG)
        for many in range(65):
            for number, heights in (spread.greatest_in(many), spread.least_in(many)):
                self.assertTrue(fits(told(spread), heights))
                self.same(sum(heights[:many]), number)
        free = Spread(64, (LONG, LONG), (64, 64))
        self.same([free.greatest_in(many)[0] for many in (0, 1, 2, 63, 64)], [0, LONG - 63, LONG - 62, LONG - 1, LONG])
        self.same([free.least_in(many)[0] for many in (0, 1, 2, 63, 64)], [0, 1, 2, 63, LONG])

    def test_no_number_of_values(self):
        spread = Spread(3, (1, 4), (1, 3))
        for value in [*ODD, -1, 4, 65, LONG, 1.0]:
            self.fails(InvalidNumber, value, spread.greatest_in, value)
            self.fails(InvalidNumber, value, spread.least_in, value)


class Both(Case):

    def test_and(self):
        given = dice(35)
        seen = {True: 0, False: 0}
        for _ in range(300):
            size = given.randint(1, 3)
            one, other = any_spread(given, size, 5), any_spread(given, size, 5)
            common = set(all_heights(told(one))) & set(all_heights(told(other)))
            rows = (max(one.rows[0], other.rows[0]), min(one.rows[1], other.rows[1]))
            different = (max(one.different[0], other.different[0]), min(one.different[1], other.different[1]))
            most = min([most for most in (one.most, other.most) if most is not None], default=None)
            seen[bool(common)] += 1
            if common:
                self.same(told(one & other), (size, rows, different, most))
                self.same(set(all_heights(told(one & other))) == common, True)
            else:
                self.fails(Contradictory, (size, rows, different, most), lambda: one & other)
        self.assertGreater(min(seen.values()), 40, seen)

    def test_limits_that_cross(self):
        one = Spread(3, (5, 6), (1, 1))
        self.fails(Contradictory, (3, (5, 4), (2, 1), 2), lambda: one & Spread(3, (2, 4), (2, 2), 2))
        self.fails(Contradictory, (3, (5, 6), (2, 1), None), lambda: one & Spread(3, (5, 9), (2, 3)))
        self.fails(Contradictory, (3, (5, 4), (1, 1), None), lambda: one & Spread(3, (0, 4), (0, 2)))
        self.fails(Contradictory, (3, (5, 6), (1, 1), 4), lambda: one & Spread(3, (4, 6), (1, 2), 4))
        self.fails(Contradictory, (2, (1, 0), (0, 2), None), lambda: Spread(2, (0, 0), (0, 2)) & Spread(2, (1, 1), (0, 2)))

    def test_no_spread_of_this_size(self):
        one = Spread(3, (1, 4), (1, 2), 3)
        for value in [*ODD, 3, (3, (1, 4), (1, 2), 3), Spread(2, (1, 4), (1, 2), 3), Spread(4, (9, 9), (1, 2)),
                      Facts(3, 3)]:
            self.fails(InvalidSpread, value, lambda: one & value)
        self.same(told(one), (3, (1, 4), (1, 2), 3))


class Changing(Case):

    def test_how_the_limits_move(self):
        one = Spread(9, (3, 8), (2, 5), 4)
        self.same([told(one.grown(known)) for known in (None, True, False)],
                  [(9, (4, 9), (2, 6), 5), (9, (4, 9), (2, 5), 5), (9, (4, 9), (3, 6), 4)])
        self.same([told(one.shrunk(last)) for last in (None, True, False)],
                  [(9, (2, 7), (1, 5), 4), (9, (2, 7), (1, 4), 4), (9, (2, 7), (2, 5), 4)])
        free = Spread(9, (0, LONG), (0, LONG))
        self.same([told(free.grown(known)) for known in (None, True, False)],
                  [(9, (1, LONG + 1), (0, LONG + 1), None), (9, (1, LONG + 1), (0, LONG), None),
                   (9, (1, LONG + 1), (1, LONG + 1), None)])
        self.same([told(free.shrunk(last)) for last in (None, True, False)],
                  [(9, (0, LONG - 1), (0, LONG), None), (9, (0, LONG - 1), (0, LONG - 1), None),
                   (9, (0, LONG - 1), (0, LONG), None)])
        self.same(told(one), (9, (3, 8), (2, 5), 4))
        self.same((one.grown(), one.shrunk()) == (one.grown(None), one.shrunk(None)), True)
        self.same((told(one.grown(known=True)), told(one.shrunk(last=True))),
                  ((9, (4, 9), (2, 5), 5), (9, (2, 7), (1, 4), 4)))

    def test_what_fitted_fits_behind_a_row_more_or_less(self):
        given = dice(36)
        seen = {}
        for _ in range(200):
            spread = any_spread(given, given.randint(1, 3), 4)
            possible = all_heights(told(spread))
            for known in (None, True, False):
                more = [heights[:at] + (heights[at] + 1,) + heights[at + 1:] for heights in possible
                        for at in range(spread.size) if known is None or (heights[at] > 0) == known]
                less = [heights[:at] + (heights[at] - 1,) + heights[at + 1:] for heights in possible
                        for at in range(spread.size) if heights[at] > 0 and (known is None or (heights[at] == 1) == known)]
                for name, behind in (("grown", more), ("shrunk", less)):
                    moved = behind_a_change(told(spread), name, known)
                    if min(moved[1][1], moved[2][1]) < 0 or not all_heights(moved):
                        seen[name, known] = True
                        self.same(behind, [])
                        self.fails(Contradictory, told(spread), getattr(spread, name), known)
                        continue
                    changed = getattr(spread, name)(known)
                    self.same(told(changed), moved)
                    self.assertTrue(all(heights in changed for heights in behind))
        self.assertEqual(len(seen), 5, seen)

    def test_what_cannot_be(self):
        full = Spread(2, (2, 9), (2, 2))
        self.fails(Contradictory, (2, (2, 9), (2, 2), None), full.grown, False)
        none = Spread(2, (0, 0), (0, 2), 5)
        self.fails(Contradictory, (2, (0, 0), (0, 2), 5), none.shrunk)
        self.fails(Contradictory, (2, (0, 0), (0, 2), 5), none.shrunk, True)
        self.fails(Contradictory, (2, (0, 0), (0, 2), 5), none.shrunk, False)
        never = Spread(2, (0, 3), (0, 0), 1)
        self.fails(Contradictory, (2, (0, 3), (0, 0), 1), never.grown, True)
        self.fails(Contradictory, (2, (0, 3), (0, 0), 1), never.shrunk, True)
        ones = Spread(3, (2, 3), (2, 3), 1)
        self.same(told(ones.shrunk(False)), (3, (1, 2), (2, 3), 1))
        self.fails(Contradictory, (3, (2, 2), (2, 3), 1), Spread(3, (2, 2), (2, 3), 1).shrunk, False)

    def test_other_values(self):
        spread = Spread(3, (1, 4), (1, 2), 3)
        never = Spread(2, (0, 0), (0, 0))
        for value in [value for value in ODD if value is not None and value is not True and value is not False] + [
                0, 1, 2, 0.0, "True", (True,), LONG]:
            for changed in (spread, never):
                self.fails(InvalidSpread, value, changed.grown, value)
                self.fails(InvalidSpread, value, changed.shrunk, value)
