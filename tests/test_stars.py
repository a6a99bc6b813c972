"""Points 3 (e), 11 and stage 10: stars, and the greatest numbers of answers of their members."""

import itertools

from surecounts.errors import InvalidColumn, InvalidMembers
from surecounts.spreads import Spread
from surecounts.stars import Star
from tests.cases import LONG, ODD, Agreeing, Case
from tests.samples import any_spread, column_heights, dice, fits, sum_of_products, told

ONE = Spread(4, (10, 10), (3, 3))
OTHER = Spread(4, (6, 6), (2, 2))
KEYS = (3, 0, 1, 1)


def all_members(star):
    """All ascending tuples of at least one member."""
    return [members for many in range(1, len(star) + 1) for members in itertools.combinations(range(len(star)), many)]


class Stars(Case):

    def has(self, keys, columns, members):
        """What greatest returns is of the right form, and has its number. Returns this."""
        star = Star(keys, columns)
        number, found = star.greatest(members)
        kept = [columns[member - len(keys)] for member in members if member >= len(keys)]
        self.same((found.__class__, len(found)), (tuple, len(kept)))
        for heights, column in zip(found, kept):
            self.assertIsInstance(heights, tuple)
            rest = heights
            for spread in column:
                self.assertTrue(fits(told(spread), rest[:spread.size]))
                rest = rest[spread.size:]
            self.same(rest, ())
        whole = [keys[member] for member in members if member < len(keys)]
        self.same(sum_of_products(*whole, *found), number)
        return number

    def test_example(self):
        star = Star((KEYS,), ((ONE,), (OTHER,)))
        self.same((star.greatest((0, 1))[0], star.greatest((1, 2))[0], star.greatest((0, 1, 2))[0]), (26, 41, 121))
        self.same(star.greatest(members=(0,)), (5, ()))
        self.same(Star(columns=((ONE,), (OTHER,)), keys=(KEYS,)).greatest((2,))[0], 6)
        self.same(star.answers(columns=((8, 1, 0, 1), (1, 5, 0, 0)), members=(0, 1, 2)), 24)

    def test_all_heights_that_fit(self):
        given = dice(61)
        for _ in range(60):
            sizes = given.choice([(1,), (2,), (3,), (1, 1), (2, 1), (1, 2), (1, 1, 1)])
            keys = tuple(tuple(given.randint(0, 3) for _ in range(sum(sizes))) for _ in range(given.randint(1, 2)))
            columns = tuple(tuple(any_spread(given, size, 3) for size in sizes) for _ in range(given.randint(1, 2)))
            star = Star(keys, columns)
            self.same(len(star), len(keys) + len(columns))
            for members in all_members(star):
                kept = [columns[member - len(keys)] for member in members if member >= len(keys)]
                whole = [keys[member] for member in members if member < len(keys)]
                expected = max(sum_of_products(*whole, *heights)
                               for heights in itertools.product(*[column_heights(column) for column in kept]))
                self.same(self.has(keys, columns, members), expected)

    def test_answers(self):
        given = dice(62)
        for _ in range(30):
            keys = tuple(tuple(given.randint(0, 5) for _ in range(3)) for _ in range(2))
            columns = tuple((any_spread(given, 2, 4), any_spread(given, 1, 4)) for _ in range(2))
            star = Star(keys, columns)
            heights = tuple(given.choice(column_heights(column)) for column in columns)
            known = [*keys, *heights]
            for members in all_members(star):
                number = star.answers(members, heights)
                self.same(number, sum_of_products(*[known[member] for member in members]))
                self.assertLessEqual(number, star.greatest(members)[0])

    def test_five_members(self):
        for many in range(1, 5):
            keys = tuple(tuple(range(at, at + 4)) for at in range(many))
            columns = ((ONE,), (OTHER,), (ONE,), (OTHER,))[:5 - many]
            star = Star(keys, columns)
            self.same(len(star), 5)
            for members in all_members(star):
                self.has(keys, columns, members)
            heights = ((8, 0, 1, 1), (0, 0, 5, 1), (1, 1, 0, 8), (3, 3, 0, 0))[:5 - many]
            self.same(star.answers((0, 1, 2, 3, 4), heights), sum_of_products(*keys, *heights))

    def test_two_members_are_least(self):
        star = Star(((2,),), ((Spread(1, (0, 3), (0, 1)),),))
        self.same((len(star), star.greatest((0, 1)), star.greatest((0,)), star.greatest((1,))),
                  (2, (6, ((3,),)), (2, ()), (3, ((3,),))))

    def test_buckets_stand_for_themselves(self):
        keys = ((0, 0, 9, 1, 7),)
        columns = ((Spread(2, (4, 4), (1, 2)), Spread(3, (3, 3), (2, 3))),)
        star = Star(keys, columns)
        self.same(star.greatest((0, 1))[0], 0 + 9 * 2 + 7)
        self.same(star.greatest((1,))[0], 7)
        self.same(star.greatest((0, 1))[1][0][2:], (2, 0, 1))

    def test_sixty_four_values_and_great_numbers(self):
        keys = (tuple(LONG + at for at in range(64)),)
        one = Spread(64, (LONG, LONG), (64, 64), LONG // 32)
        other = Spread(64, (0, LONG), (1, 64))
        self.has(keys, ((one,), (other,), (one,), (other,)), (0, 1, 2, 3, 4))
        buckets = tuple(Spread(1, (at, LONG + at), (0, 1)) for at in range(64))
        self.same(self.has(keys, (buckets,), (0, 1)), sum((LONG + at) ** 2 for at in range(64)))
        self.same(self.has(keys, (buckets,), (1,)), 64 * LONG + 63 * 32)

    def test_equal_to_nothing_else(self):
        star = Star((KEYS,), ((ONE,),))
        for other in [value for value in ODD if not isinstance(value, Agreeing)] + [ONE]:
            self.same((star == other, star != other), (False, True))


class Wrong(Case):

    def test_keys(self):
        for keys in [*ODD, KEYS, [KEYS], ([3, 0, 1, 1],), (KEYS, [3, 0, 1, 1]), (KEYS, (3, 0, 1)), ((3, 0, 1), KEYS),
                     (KEYS, (3, 0, 1, True)), (KEYS, (3, 0, 1, -1)), ((3, 0, 1, None),), ((0,) * 65,), (KEYS,) * 5,
                     (KEYS, None), ((Agreeing(),),), ((3, 0, 1, 1.0),), (KEYS, KEYS, KEYS, KEYS, ())]:
            self.fails(InvalidColumn, "keys", Star, keys, None)
            self.fails(InvalidColumn, "keys", Star, keys, ((ONE,), (ONE,), (ONE,), (ONE,)))

    def test_columns(self):
        for columns in [*ODD, ONE, (ONE,), [(ONE,)], ([ONE],), ((ONE,), ()), ((), (ONE,)), ((ONE,), [ONE]),
                        ((ONE, None),), ((ONE, (ONE,)),), ((ONE,),) * 5, ((ONE,), None), ((KEYS,),)]:
            for keys in ((KEYS,), (KEYS,) * 4, ((0,),)):
                self.fails(InvalidColumn, "columns", Star, keys, columns)

    def test_too_many_members(self):
        for many in range(2, 5):
            for short in ((KEYS,), ((0,),)):
                self.fails(InvalidColumn, "members", Star, short * many, ((ONE,),) * (6 - many))
        self.fails(InvalidColumn, "members", Star, (KEYS,) * 4, ((ONE,),) * 4)

    def test_sizes(self):
        two = Spread(2, (1, 1), (1, 1))
        one = Spread(1, (1, 1), (1, 1))
        three = Spread(3, (1, 1), (1, 1))
        self.same(len(Star((KEYS,), ((one, three), (one, three)))), 3)
        for columns in (((two,),), ((two, three),), ((one, three), (three, one)), ((two, two), (ONE,)),
                        ((two, two), (two, one, one)), ((ONE,), (two,)), ((two,), (ONE,)), ((ONE, ONE),),
                        ((two, two), (two, two), (two, two), (two,)), ((two, two), (two, two, one))):
            self.fails(InvalidColumn, "sizes", Star, (KEYS,), columns)
        self.fails(InvalidColumn, "sizes", Star, ((0,) * 64,), ((Spread(64, (1, 1), (1, 1)), one),))

    def test_members(self):
        star = Star((KEYS,), ((ONE,), (OTHER,)))
        for members in [*ODD, 0, 1, [0, 1], (0, 0), (1, 0), (0, 2, 1), (3,), (0, 3), (-1,), (-1, 0), (0, True), (False,),
                        (0, None), (0, 1.0), ((0,),), (0, 1, 2, 3), (Agreeing(),), (LONG,)]:
            self.fails(InvalidMembers, members, star.greatest, members)
            self.fails(InvalidMembers, members, star.answers, members, None)

    def test_columns_of_heights(self):
        star = Star((KEYS,), ((ONE,), (OTHER,)))
        good, other = (8, 1, 0, 1), (1, 5, 0, 0)
        for columns in [*ODD, 0, [good, other], (good,), (good, other, other), good, (good, other, KEYS)]:
            self.fails(InvalidColumn, None, star.answers, (0,), columns)
        for bad in [*ODD, 0, list(good), (8, 1, 0), (8, 1, 0, 1, 0), (8, 1, 0, True), (8, True, 0, 1), (8, 1, None, 1),
                    (7, 1, 0, 1), (7, 1, 1, 1), (9, 1, 0, 0), (11, -1, 0, 0), (8, 1, 0, 1.0), (Agreeing(), 1, 0, 1)]:
            for members in ((0,), (1,), (2,), (0, 2)):
                self.fails(InvalidColumn, 0, star.answers, members, (bad, other))
                self.fails(InvalidColumn, 0, star.answers, members, (bad, None))
        for bad in [*ODD, good, list(other), (1, 4, 0, 0), (1, 5, 0)]:
            self.fails(InvalidColumn, 1, star.answers, (0, 1), (good, bad))

    def test_heights_of_several_buckets(self):
        one = Spread(1, (2, 2), (1, 1))
        star = Star(((1, 1, 1),), ((one, Spread(2, (3, 3), (1, 2))),))
        self.same(star.answers((1,), ((2, 0, 3),)), 5)
        for bad in ((3, 0, 2), (2, 3), (2, 0, 3, 0), (2, 0, 2), (2,), ((2,), (0, 3)), (0, 2, 3)):
            self.fails(InvalidColumn, 0, star.answers, (1,), (bad,))
