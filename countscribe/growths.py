"""Growths: numbers at all points that grow evenly behind some limits."""

from countscribe.checks import MOST_UNKNOWNS, is_counts, is_whole, need_many, need_point
from countscribe.errors import InvalidGrowth, InvalidList
from countscribe.lines import line_point, need_line_for
from countscribe.runs import least_run


def is_limits(value):
    """Whether a value is a list of a count for each unknown."""
    return isinstance(value, list) and len(value) <= MOST_UNKNOWNS and is_counts(value, len(value))


def is_wholes(value, size):
    """Whether a value is a list of so many whole numbers."""
    return isinstance(value, list) and len(value) == size and all([is_whole(item) for item in value])


def how_many_points(limits):
    """How many points there are whose counts are at most those of a list."""
    many = 1
    for limit in limits:
        many *= limit + 1
    return many


def is_some_growth(value):
    """Whether a value is a least growth for some number of unknowns."""
    if not isinstance(value, tuple) or len(value) != 3:
        return False
    limits, values, slopes = value
    if not is_limits(limits) or not is_wholes(values, how_many_points(limits)) or not is_wholes(slopes, len(limits)):
        return False
    return not any([spare_layers(value, axis) for axis in range(len(limits))])


def is_growth(many, value):
    """Whether a value is a least growth for `many` unknowns."""
    need_many(many)
    return is_some_growth(value) and len(value[0]) == many


def need_growth(value):
    """Refuse what is no least growth."""
    if not is_some_growth(value):
        raise InvalidGrowth(value)


def points_ahead(limits, axis):
    """How far two values stand apart whose points differ by 1 in the count of an unknown, and in no other one."""
    return how_many_points(limits[axis + 1:])


def spare_layers(growth, axis):
    """By how much the limit of an unknown can be less."""
    limits, values, slopes = growth
    apart, layers = points_ahead(limits, axis), limits[axis] + 1
    spare = 0
    while layers - spare > 1 and is_even(values, apart, layers, layers - spare - 1, slopes[axis]):
        spare += 1
    return spare


def is_even(values, apart, layers, layer, slope):
    """Whether all values with a count are greater, by a slope, than those with one count less."""
    for start in range(layer * apart, len(values), layers * apart):
        for at in range(start, start + apart):
            if values[at] - values[at - apart] != slope:
                return False
    return True


def least_growth(limits, values, slopes):
    """The least growth for what a growth stands for."""
    if not is_limits(limits):
        raise InvalidList(limits)
    if not is_wholes(values, how_many_points(limits)):
        raise InvalidList(values)
    if not is_wholes(slopes, len(limits)):
        raise InvalidList(slopes)
    growth = list(limits), list(values), list(slopes)
    for axis in range(len(limits)):
        growth = lowered(growth, axis, spare_layers(growth, axis))
    return growth


def lowered(growth, axis, spare):
    """The growth in which the limit of an unknown is so much less."""
    limits, values, slopes = growth
    apart, layers = points_ahead(limits, axis), limits[axis] + 1
    left = [number for at, number in enumerate(values) if at // apart % layers < layers - spare]
    return limits[:axis] + [limits[axis] - spare] + limits[axis + 1:], left, slopes


def growth_value(growth, point):
    """The number of a growth at a point."""
    need_growth(growth)
    need_point(point, len(growth[0]))
    return number_at(growth, point)


def number_at(growth, point):
    """The number of a growth at a point, without any check."""
    limits, values, slopes = growth
    at = grown = 0
    for limit, slope, count in zip(limits, slopes, point):
        low = min(limit, count)
        at = at * (limit + 1) + low
        grown += slope * (count - low)
    return values[at] + grown


def growth_along(growth, line):
    """The least run for the numbers of a growth at the points of a line."""
    need_growth(growth)
    limits, _, slopes = growth
    need_line_for(len(limits), line)
    since = counts_to_limits(limits, line)
    numbers = [number_at(growth, line_point(line, count)) for count in range(since + 1)]
    return least_run(numbers[:since], numbers[since], sum([slope * by for slope, by in zip(slopes, line.step())]))


def counts_to_limits(limits, line):
    """The least count from which on no count that grows along a line is below its limit."""
    rows = list(zip(limits, line.base(), line.step()))
    return max([0] + [(limit - start + by - 1) // by for limit, start, by in rows if by])
