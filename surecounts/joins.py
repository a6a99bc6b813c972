"""Joins of spreads: the ends of the sum over the values of the products of their heights."""

from surecounts.checks import is_count, is_whole
from surecounts.errors import InvalidColumn, InvalidSpread
from surecounts.spreads import MOST_HEIGHTS, check_spread, least_rows_in, level_heights, padded, steep_heights

MOST_SPREADS = 4


def check_two(one, other):
    """Raises InvalidSpread with the first of two values that is no spread, with other if the sizes differ."""
    check_spread(one)
    check_spread(other)
    if one.size != other.size:
        raise InvalidSpread(other)


def is_column(value):
    """Whether any value is a tuple of the heights of one to 64 values."""
    if not isinstance(value, tuple) or not 1 <= len(value) <= MOST_HEIGHTS:
        return False
    return all([is_count(height) for height in value])


def check_along(keys, spreads):
    """Raises InvalidColumn with keys, InvalidSpread with spreads or one of them, if they are none."""
    if not is_column(keys):
        raise InvalidColumn(keys)
    if not isinstance(spreads, list) or not 1 <= len(spreads) <= MOST_SPREADS:
        raise InvalidSpread(spreads)
    for spread in spreads:
        check_spread(spread)
        if spread.size != len(keys):
            raise InvalidSpread(spread)


def products_of(size, columns):
    """For each of so many values, the product of its heights in a list of columns."""
    products = (1,) * size
    for column in columns:
        products = tuple([product * height for product, height in zip(products, column)])
    return products


def sum_of_products(columns):
    """The sum over the values of the products of their heights in a list of columns."""
    return sum(products_of(len(columns[0]), columns))


def steepest(spread):
    """The steep heights of the most rows and then the fewest different values."""
    rows, minus = max([(most, -different) for different, _, most in spread.pairs()])
    return padded(steep_heights(rows, -minus, spread.most), spread.size)


def placed(order, heights):
    """The column in which the values, in some order, have these heights."""
    column = [0] * len(order)
    for at, height in zip(order, heights):
        column[at] = height
    return tuple(column)


def least_pairs(spread):
    """The list of the tuples (rows, different, most) of all numbers of different values, each with its fewest rows."""
    return [(rows, different, spread.most) for different, rows, _ in spread.pairs()]


def parted(common, told):
    """For so many common values, the heights of the common and of the other ones that have the least rows in common."""
    rows, different, most = told
    apart = different - common
    inside = least_rows_in(common, apart, rows, most)
    return (steep_heights(inside, common, most), level_heights(rows - inside, apart))


def greatest_join(one, other):
    """The greatest number of answers of two spreads, and heights that have it."""
    check_two(one, other)
    heights = steepest(one)
    others = steepest(other)
    return (sum_of_products([heights, others]), heights, others)


def join_of(size, told, other_told):
    """The least number of answers for given rows and different values, and heights that have it."""
    common = max(0, told[1] + other_told[1] - size)
    falling, apart = parted(common, told)
    other_falling, other_apart = parted(common, other_told)
    rising = other_falling[::-1]
    heights = padded(falling + apart, size)
    others = padded(rising + (0,) * len(apart) + other_apart, size)
    return (sum_of_products([falling, rising]), heights, others)


def least_join(one, other):
    """The least number of answers of two spreads, and heights that have it."""
    check_two(one, other)
    return min([join_of(one.size, told, other_told) for told in least_pairs(one) for other_told in least_pairs(other)])


def greatest_along(keys, spreads):
    """The greatest sum of the products of keys and a height of each spread, and the list of heights that have it."""
    check_along(keys, spreads)
    order = sorted(range(len(keys)), key=lambda at: -keys[at])
    columns = [placed(order, steepest(spread)) for spread in spreads]
    return (sum_of_products([keys, *columns]), columns)


def least_along(keys, spread):
    """The least sum of the products of keys and heights of a spread, and heights that have it."""
    check_along(keys, [spread])
    order = sorted(range(len(keys)), key=lambda at: keys[at])
    columns = [placed(order, steep_heights(rows, different, most)) for rows, different, most in least_pairs(spread)]
    return min([(sum_of_products([keys, column]), column) for column in columns])


def tops(spread):
    """For each number of values from 0 to size, the greatest number of rows in so many."""
    check_spread(spread)
    return [spread.greatest_in(many)[0] for many in range(spread.size + 1)]


def steps_of(numbers):
    """The steps from each number to the next one."""
    return [after - ahead for ahead, after in zip(numbers, numbers[1:])]


def is_bound(spread, value):
    """Whether any value is a list from 0 on with falling steps, nowhere less than the tops of a spread."""
    if not isinstance(value, list) or len(value) != spread.size + 1 or not all([is_whole(entry) for entry in value]):
        return False
    if value[0] != 0 or any([entry < top for entry, top in zip(value, tops(spread))]):
        return False
    steps = steps_of(value)
    return steps[-1] >= 0 and all([after <= ahead for ahead, after in zip(steps, steps[1:])])


def join_bound(one, other, first, second):
    """The number that two lists show for two spreads, or None; no join has more."""
    check_two(one, other)
    if not is_bound(one, first) or not is_bound(other, second):
        return None
    return sum_of_products([steps_of(first), steps_of(second)])
