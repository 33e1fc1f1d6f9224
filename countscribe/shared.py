"""The words that two texts for one unknown share, at the same counts or at any two counts."""

from math import gcd

from countscribe.errors import InvalidText
from countscribe.formtools import form_value
from countscribe.keptorder import same_kept
from countscribe.piecetools import powers_in
from countscribe.texts import kept, length, need_text_along, replaced, size


def agreeing(one, other):
    """All counts at which two texts write the same word, None if they are equal."""
    need_text_along(one)
    need_text_along(other)
    return None if one == other else agreeing_counts(one, other)


def agreeing_counts(one, other):
    """All counts at which two texts that are not equal write the same word."""
    left, right = length(one), length(other)
    # Beyond the greater one of the sizes, two texts that are not equal never write the same word.
    counts = [[count] for count in range(max(size(one), size(other)) + 1)]
    counts = [point for point in counts if form_value(left, point) == form_value(right, point)]
    return [point[0] for point in counts if same_kept(kept(one, point), kept(other, point))]


def shared(one, other):
    """All pairs of counts at which one text and the other write the same word, as a list or as a line."""
    need_power_text(one)
    need_power_text(other)
    pair, step = length_line(length(one), length(other))
    if pair is None:
        return "pairs", []
    left = replaced(one, 1, [(pair[0], step[0])])
    right = replaced(other, 1, [(pair[1], step[1])])
    if left == right:
        return "line", pair, step
    return "pairs", [(pair[0] + step[0] * at, pair[1] + step[1] * at) for at in agreeing_counts(left, right)]


def shared_text(one, other):
    """The text of the words at the pairs of the line, None if the pairs are no line."""
    found = shared(one, other)
    if found[0] == "pairs":
        return None
    return replaced(one, 1, [(found[1][0], found[2][0])])


def need_power_text(value):
    """Refuse what is no open text for one unknown with a power at least."""
    need_text_along(value)
    if not powers_in(value.pieces()):
        raise InvalidText(value)


def length_line(one, other):
    """The least pair of counts at which two forms have the same value, and the step from each pair to the next one.

    Both numbers at the unknown are above 0. The pair is None if there is none.
    """
    divisor = gcd(one[1], other[1])
    by, to = other[1] // divisor, one[1] // divisor
    ahead = other[0] - one[0]
    if ahead % divisor:
        return None, (by, to)
    count = ahead // divisor * inverse(to, by) % by
    short = ahead - one[1] * count
    if short > 0:
        # The count of the other one would be below 0.
        count += (short + one[1] * by - 1) // (one[1] * by) * by
    return (count, (one[0] + one[1] * count - other[0]) // other[1]), (by, to)


def inverse(number, modulus):
    """A number that, times a number without a common divisor with the modulus, leaves 1 when divided by that."""
    rest, other = modulus, number % modulus
    factor, more = 0, 1
    while other:
        times = rest // other
        rest, other = other, rest - times * other
        factor, more = more, factor - times * more
    return factor % modulus
