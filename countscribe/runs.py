"""Runs and wheels: numbers and letters along one count that is not given."""

from countscribe.checks import is_letter, is_whole, need_count
from countscribe.errors import InvalidList, InvalidNumber, InvalidRun, InvalidWheel, TooMany
from countscribe.wordtools import root_size

MOST_ITEMS = 600


def is_run_value(value):
    """Whether a value is one that a run may have at a count."""
    return value is None or is_whole(value)


def is_run_list(value):
    """Whether a value is a list of what a run may have at counts."""
    return isinstance(value, list) and all([is_run_value(item) for item in value])


def is_slope(start, value):
    """Whether a value is a slope that goes with a start."""
    return is_whole(value) and (start is not None or value == 0)


def is_run(value):
    """Whether a value is a least run."""
    if not isinstance(value, tuple) or len(value) != 3:
        return False
    first, start, slope = value
    if not is_run_list(first) or not is_run_value(start) or not is_slope(start, slope):
        return False
    return not first or first[-1] != one_before(start, slope)


def one_before(start, slope):
    """What a start goes on from."""
    return None if start is None else start - slope


def shortened(first, start, slope):
    """The least run for the values of a run."""
    size = len(first)
    while size and first[size - 1] == one_before(start, slope):
        size -= 1
        start = first[size]
    return first[:size], start, slope


def least_run(first, start, slope):
    """The least run for the values of a run."""
    if not is_run_list(first):
        raise InvalidList(first)
    if not is_run_value(start):
        raise InvalidNumber(start)
    if not is_slope(start, slope):
        raise InvalidNumber(slope)
    return shortened(first, start, slope)


def need_run(value):
    """Refuse what is no least run."""
    if not is_run(value):
        raise InvalidRun(value)


def run_value(run, number):
    """The value of a run at a count."""
    need_run(run)
    need_count(number)
    return at_count(run, number)


def at_count(run, count):
    """The value of a run at a count, without any check."""
    first, start, slope = run
    if count < len(first):
        return first[count]
    return None if start is None else start + slope * (count - len(first))


def longer_list(one, other):
    """How many items the longer one of the lists of two runs has."""
    return max(len(one[0]), len(other[0]))


def run_sum(one, other):
    """The run whose value at each count is the sum of those of two runs."""
    need_run(one)
    need_run(other)
    size = longer_list(one, other)
    sums = [value_sum(at_count(one, count), at_count(other, count)) for count in range(size + 1)]
    return shortened(sums[:size], sums[size], 0 if sums[size] is None else one[2] + other[2])


def value_sum(left, right):
    """The sum of two values, None if one of them is None."""
    return None if left is None or right is None else left + right


def run_lesser(one, other):
    """The run whose value at each count is the lesser one of those of two runs."""
    need_run(one)
    need_run(other)
    size = longer_list(one, other)
    low, high = one, other
    if is_lesser_far_on(other, one, size):
        low, high = other, one
    since = lesser_since(low, high, size)
    # Behind the lists, the item ahead of a crossing is above what the start goes on from, and cannot be left out.
    if since > max(size, MOST_ITEMS):
        raise TooMany(since)
    values = [lesser_value(at_count(one, count), at_count(other, count)) for count in range(since)]
    run = shortened(values, at_count(low, since), low[2])
    if len(run[0]) > MOST_ITEMS:
        raise TooMany(len(run[0]))
    return run


def lesser_value(left, right):
    """The lesser one of two values, the other one where one of them is None."""
    if left is None or right is None:
        return right if left is None else left
    return min(left, right)


def is_lesser_far_on(one, other, size):
    """Whether the values of one run are the lesser ones at all counts that are great enough."""
    left, right = at_count(one, size), at_count(other, size)
    if left is None or right is None:
        return left is not None
    return (one[2], left) < (other[2], right)


def lesser_since(low, high, size):
    """The least count, behind two lists, from which on the first run, which is lesser far on, is lesser."""
    left, right = at_count(low, size), at_count(high, size)
    if right is None or left <= right:
        return size
    closing = high[2] - low[2]
    return size + (left - right + closing - 1) // closing


def run_meetings(one, other):
    """At which counts two runs have the same value, and since when they have it for ever."""
    need_run(one)
    need_run(other)
    size = longer_list(one, other)
    same = [at_count(one, count) == at_count(other, count) for count in range(size + 1)]
    if not same[size] or one[2] != other[2]:
        counts = [count for count in range(size) if same[count]]
        return counts + line_meetings(one, other, size), None
    since = size
    while since and same[since - 1]:
        since -= 1
    return [count for count in range(since) if same[count]], since


def line_meetings(one, other, size):
    """The counts, behind both lists, at which two runs have the same value, where they are not the same for ever."""
    left, right = at_count(one, size), at_count(other, size)
    if left is None or right is None or one[2] == other[2]:
        return []
    gap, closing = right - left, one[2] - other[2]
    if gap % closing or gap // closing < 0:
        return []
    return [size + gap // closing]


def is_wheel_list(value):
    """Whether a value is a list of letters and None."""
    return isinstance(value, list) and all([item is None or is_letter(item) for item in value])


def turn_root(turn):
    """The length of the shortest list of which a turn is a multiple."""
    return root_size("".join([item or "-" for item in turn]))


def items_going_back(first, turn):
    """How many items at the end of a list are those of a turn that is read backwards without end."""
    many = 0
    while many < len(first) and first[-1 - many] == turn[-1 - many % len(turn)]:
        many += 1
    return many


def is_wheel(value):
    """Whether a value is a least wheel."""
    if not isinstance(value, tuple) or len(value) != 2:
        return False
    first, turn = value
    if not is_wheel_list(first) or not is_wheel_list(turn) or not turn:
        return False
    return turn_root(turn) == len(turn) and not items_going_back(first, turn)


def least_wheel(first, turn):
    """The least wheel for what a wheel stands for."""
    if not is_wheel_list(first):
        raise InvalidList(first)
    if not is_wheel_list(turn) or not turn:
        raise InvalidList(turn)
    size = turn_root(turn)
    back = items_going_back(first, turn)
    return first[:len(first) - back], [turn[(at - back) % size] for at in range(size)]


def wheel_value(wheel, number):
    """What a wheel stands for at a count."""
    if not is_wheel(wheel):
        raise InvalidWheel(wheel)
    need_count(number)
    first, turn = wheel
    return first[number] if number < len(first) else turn[(number - len(first)) % len(turn)]
