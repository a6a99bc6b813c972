"""Points 3 (d), 10 and stage 8: the ends of joins of spreads, exactly."""

from surecounts.errors import InvalidColumn, InvalidSpread
from surecounts.facts import Facts
from surecounts.joins import greatest_along, greatest_join, join_bound, least_along, least_join, tops
from surecounts.spreads import Spread
from tests.cases import LONG, ODD, Agreeing, Case
from tests.samples import all_heights, any_spread, dice, fits, sum_of_products, told

ONE = Spread(4, (10, 10), (3, 3))
OTHER = Spread(4, (6, 6), (2, 2))
NO_SPREADS = [*ODD, 4, (4, (10, 10), (3, 3), None), (10, 0, 0, 0), Facts(4, 4)]
OTHER_SIZES = [Spread(3, (10, 10), (3, 3)), Spread(5, (10, 10), (3, 3)), Spread(64, (10, 10), (3, 3))]


class Found(Case):

    def has(self, found, spreads):
        """The heights that were found fit, and have the number that was found with them."""
        number, *columns = found
        for heights, spread in zip(columns, spreads, strict=True):
            self.assertIsInstance(heights, tuple)
            self.assertTrue(fits(told(spread), heights))
        self.same((found.__class__, sum_of_products(*columns)), (tuple, number))
        return number


class Joins(Found):

    def test_examples(self):
        self.same((greatest_join(ONE, OTHER)[0], least_join(ONE, OTHER)[0], greatest_along((3, 0, 1, 1), [ONE])[0],
                   least_along((3, 0, 1, 1), ONE)[0]), (41, 1, 26, 2))
        self.same((greatest_join(other=OTHER, one=ONE)[0], least_join(other=OTHER, one=ONE)[0]), (41, 1))

    def test_all_heights_that_fit(self):
        given = dice(41)
        common = 0
        for _ in range(250):
            size = given.randint(1, 4)
            one, other = any_spread(given, size, 6), any_spread(given, size, 6)
            numbers = [sum_of_products(heights, others) for heights in all_heights(told(one))
                       for others in all_heights(told(other))]
            self.same(self.has(greatest_join(one, other), (one, other)), max(numbers))
            self.same(self.has(least_join(one, other), (one, other)), min(numbers))
            common += min(numbers) > 0
        self.assertGreater(common, 30)

    def test_more_rows_than_values_in_common(self):
        # All values are common, and the least number needs other heights than the level ones.
        for one, other, expected in ((Spread(2, (5, 5), (2, 2)), Spread(2, (4, 4), (2, 2)), 4 + 3),
                                     (Spread(3, (9, 9), (3, 3), 4), Spread(3, (7, 7), (3, 3), 3), 4 + 4 * 3 + 3),
                                     (Spread(2, (5, 5), (2, 2), 3), Spread(2, (4, 4), (2, 2), 2), 6 + 4),
                                     (Spread(3, (4, 9), (3, 3)), Spread(3, (3, 7), (1, 3)), 3),
                                     (Spread(3, (4, 4), (3, 3)), Spread(3, (6, 6), (2, 3)), 6)):
            self.same(self.has(least_join(one, other), (one, other)), expected)
            self.same(self.has(least_join(other, one), (other, one)), expected)
            numbers = [sum_of_products(heights, others) for heights in all_heights(told(one))
                       for others in all_heights(told(other))]
            self.same(min(numbers), expected)

    def test_not_always_the_fewest_different_values(self):
        given = dice(42)
        for size in (5, 6):
            for _ in range(6):
                one = Spread(size, (size + 1, size + 2), (2, size), given.choice([3, 4]))
                other = Spread(size, (size, size), (given.randint(2, 4), size), 3)
                others = all_heights(told(other))
                numbers = [sum_of_products(heights, row) for heights in all_heights(told(one))
                           if list(heights) == sorted(heights) for row in others]
                self.same(self.has(least_join(one, other), (one, other)), min(numbers))
                self.same(self.has(greatest_join(one, other), (one, other)), max(numbers))

    def test_great_numbers(self):
        one = Spread(64, (LONG, LONG), (64, 64), LONG // 32)
        other = Spread(64, (2 * LONG, 2 * LONG), (40, 64), LONG // 16)
        greatest = self.has(greatest_join(one, other), (one, other))
        least = self.has(least_join(one, other), (one, other))
        self.assertLess(least, greatest)
        self.same(join_bound(one, other, tops(one), tops(other)), greatest)
        free = Spread(64, (LONG, LONG), (64, 64))
        self.same(self.has(greatest_join(free, free), (free, free)), (LONG - 63) ** 2 + 63)
        self.same(self.has(least_join(free, free), (free, free)), 2 * (LONG - 63) + 62)
        self.same(self.has(least_join(free, Spread(64, (0, LONG), (0, 64))), (free, Spread(64, (0, LONG), (0, 64)))), 0)

    def test_no_rows_and_one_value(self):
        none = Spread(1, (0, 0), (0, 0))
        some = Spread(1, (2, 5), (1, 1))
        self.same(greatest_join(none, some), (0, (0,), (5,)))
        self.same(least_join(none, some), (0, (0,), (2,)))
        self.same(greatest_join(some, some), (25, (5,), (5,)))
        self.same(least_join(some, some), (4, (2,), (2,)))

    def test_what_is_no_spread(self):
        for value in NO_SPREADS:
            for function in (greatest_join, least_join):
                self.fails(InvalidSpread, value, function, value, None)
                self.fails(InvalidSpread, value, function, ONE, value)
            self.fails(InvalidSpread, value, tops, value)
            self.fails(InvalidSpread, value, join_bound, value, None, None, None)
            self.fails(InvalidSpread, value, join_bound, ONE, value, None, None)
        for other in OTHER_SIZES:
            for value in (lambda: greatest_join(ONE, other), lambda: least_join(ONE, other),
                          lambda: join_bound(ONE, other, None, None)):
                with self.assertRaises(InvalidSpread) as caught:
                    value()
                self.assertIs(caught.exception.value, other)


class Along(Found):

    def test_all_heights_that_fit_along(self):
        given = dice(43)
        for _ in range(150):
            size = given.randint(1, 3)
            keys = tuple(given.randint(0, 4) for _ in range(size))
            spreads = [any_spread(given, size, 4) for _ in range(given.randint(1, 3))]
            columns = [()]
            for spread in spreads:
                columns = [(*ahead, heights) for ahead in columns for heights in all_heights(told(spread))]
            number, heights = greatest_along(keys, spreads)
            self.assertIsInstance(heights, list)
            self.same(number, max(sum_of_products(keys, *row) for row in columns))
            self.same(sum_of_products(keys, *heights), number)
            for row, spread in zip(heights, spreads, strict=True):
                self.assertTrue(fits(told(spread), row))
            number, row = least_along(keys, spreads[0])
            self.same(number, min(sum_of_products(keys, row) for row in all_heights(told(spreads[0]))))
            self.same(sum_of_products(keys, row), number)
            self.assertTrue(fits(told(spreads[0]), row))

    def test_by_name(self):
        self.same(greatest_along(spreads=[ONE, OTHER], keys=(3, 0, 1, 1)), (121, [(8, 0, 1, 1), (5, 0, 1, 0)]))
        self.same(least_along(spread=ONE, keys=(3, 0, 1, 1)), (2, (0, 8, 1, 1)))

    def test_great_numbers_along(self):
        keys = tuple(range(1, 65))
        one = Spread(64, (LONG, LONG), (64, 64), LONG // 32)
        number, (heights, others, third, fourth) = greatest_along(keys, [one] * 4)
        self.same(sum_of_products(keys, heights, others, third, fourth), number)
        self.same([row in one for row in (heights, others, third, fourth)], [True] * 4)
        self.assertGreater(number, 64 * (LONG // 32) ** 4)
        free = Spread(64, (LONG, LONG + 5), (3, 64))
        self.same(greatest_along(keys, [free])[0], 64 * (LONG + 3) + 63 + 62)
        self.same(least_along(keys, free)[0], LONG - 2 + 2 + 3)
        self.same(least_along((LONG,), Spread(1, (2, 4), (0, 1))), (2 * LONG, (2,)))

    def test_keys_that_are_none(self):
        for keys in [*ODD, 3, [3, 0, 1, 1], (3, 0, 1, -1), (3, 0, 1, True), (False, 0, 1, 1), (3, 0, 1, None),
                     (3, 0, 1, 1.0), ((3, 0, 1, 1),), (0,) * 65, (Agreeing(), 0, 0, 0)]:
            self.fails(InvalidColumn, keys, greatest_along, keys, None)
            self.fails(InvalidColumn, keys, least_along, keys, None)
        self.same(greatest_along((0,) * 64, [Spread(64, (1, 1), (1, 1))])[0], 0)

    def test_spreads_that_are_none(self):
        keys = (3, 0, 1, 1)
        for value in NO_SPREADS:
            self.fails(InvalidSpread, value, greatest_along, keys, [value])
            self.fails(InvalidSpread, value, greatest_along, keys, [ONE, ONE, value, None])
            self.fails(InvalidSpread, value, least_along, keys, value)
        for value in [[], (ONE,), ONE, None, {0: ONE}, [ONE] * 5, [ONE] * 64]:
            with self.assertRaises(InvalidSpread) as caught:
                greatest_along(keys, value)
            self.assertIs(caught.exception.value, value)
        for other in OTHER_SIZES:
            for call in (lambda: greatest_along(keys, [ONE, other, None]), lambda: least_along(keys, other)):
                with self.assertRaises(InvalidSpread) as caught:
                    call()
                self.assertIs(caught.exception.value, other)

    def test_lists_are_not_kept(self):
        spreads = [ONE]
        _, heights = greatest_along((3, 0, 1, 1), spreads)
        heights.append(None)
        spreads.append(None)
        self.same(greatest_along((3, 0, 1, 1), [ONE])[1], [(8, 0, 1, 1)])


class Bounds(Case):

    def test_tops(self):
        given = dice(44)
        self.same((tops(ONE), tops(spread=OTHER)), ([0, 8, 9, 10, 10], [0, 5, 6, 6, 6]))
        for _ in range(100):
            spread = any_spread(given, given.randint(1, 4), 5)
            possible = all_heights(told(spread))
            self.same(tops(spread), [max(sum(heights[:many]) for heights in possible)
                                     for many in range(spread.size + 1)])
            self.changed_freely(lambda: tops(spread))
        self.same(tops(Spread(64, (0, LONG), (1, 64), 1)), list(range(65)))

    def test_the_number_that_two_lists_show(self):
        first, second = [0, 8, 9, 10, 10], [0, 5, 6, 6, 6]
        self.same(join_bound(ONE, OTHER, first, second), 41)
        self.same(join_bound(second=second, first=first, other=OTHER, one=ONE), 41)
        self.same((first, second), ([0, 8, 9, 10, 10], [0, 5, 6, 6, 6]))
        self.same(join_bound(ONE, OTHER, [0, 9, 10, 11, 11], [0, 5, 7, 7, 7]), 45 + 2)
        self.same(join_bound(ONE, OTHER, [0, 10, 20, 30, 40], [0, 6, 12, 18, 24]), 240)
        self.same(join_bound(ONE, OTHER, [0, LONG, 2 * LONG, 3 * LONG, 4 * LONG], [0, LONG, LONG, LONG, LONG]), LONG ** 2)

    def test_no_join_has_more(self):
        given = dice(45)
        shown = 0
        for _ in range(200):
            size = given.randint(1, 3)
            one, other = any_spread(given, size, 4), any_spread(given, size, 4)
            greatest = greatest_join(one, other)[0]
            self.same(join_bound(one, other, tops(one), tops(other)), greatest)
            for _ in range(20):
                first = [0] + [top + given.randint(0, 2) for top in tops(one)[1:]]
                number = join_bound(one, other, first, tops(other))
                steps = [after - ahead for ahead, after in zip(first, first[1:])]
                good = steps == sorted(steps, reverse=True) and steps[-1] >= 0
                self.same(number is not None, good)
                if good:
                    shown += 1
                    self.assertGreaterEqual(number, greatest)
        self.assertGreater(shown, 500)

    def test_what_is_no_such_list(self):
        first, second = [0, 8, 9, 10, 10], [0, 5, 6, 6, 6]
        for value in [*ODD, 5, (0, 8, 9, 10, 10), [0, 8, 9, 10], [0, 8, 9, 10, 10, 10], [1, 9, 10, 11, 11],
                      [False, 8, 9, 10, 10], [0, 8, 9, 10, True], [0, 8, 9, 10, None], [0, 8, 9, 10, 10.0],
                      [0, 7, 9, 10, 10], [0, 8, 9, 10, 9], [0, 8, 9, 9, 9], [0, 8, 16, 25, 25], [0, 11, 12, 11, 10],
                      [0, 8, 9, 11, 12], [0, 8, 9, 11, 11], [[0], 8, 9, 10, 10], [-1, 8, 9, 10, 10],
                      [0, 8, 9, 10, Agreeing()], [Agreeing(), 8, 9, 10, 10], first[::-1]]:
            self.same(join_bound(ONE, OTHER, value, second), None)
            self.same(join_bound(OTHER, ONE, second, value), None)
