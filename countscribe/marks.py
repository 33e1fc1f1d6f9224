"""Places in order, and marks, which go along when something ahead of them is replaced."""

from countscribe.checks import need_many
from countscribe.errors import InvalidSide, NotInOrder
from countscribe.formtools import at_most, form_difference, form_sum, greater_form, lesser_form, need_form_for

SIDES = ("left", "right")


def need_places(many, one, other):
    """Refuse what are no two places for a number of unknowns."""
    need_many(many)
    need_form_for(many, one)
    need_form_for(many, other)


def in_order(many, one, other):
    """Whether one of two places is at most the other."""
    need_places(many, one, other)
    return are_in_order(one, other)


def are_in_order(one, other):
    """Whether one of two places is at most the other, without any check."""
    return at_most(one, other) or at_most(other, one)


def torn_points(many, one, other):
    """The least point at which the value of `one` is the lesser, and that at which it is the greater; None in order."""
    need_places(many, one, other)
    if are_in_order(one, other):
        return None
    return least_point_below(one, other), least_point_below(other, one)


def least_point_below(one, other):
    """The least point at which the value of one form is less than that of another one, where there is such a point."""
    gains = [right - left for left, right in zip(one[1:], other[1:])]
    short = one[0] - other[0]
    if short < 0:
        return [0] * len(gains)
    total = short // max(gains) + 1
    point = []
    for at, gain in enumerate(gains):
        # As little of the sum as can be goes to the first counts, as long as the others can make good for it.
        most = max(gains[at + 1:], default=None)
        count = total
        if most is not None:
            count = max(0, (short - total * most) // (gain - most) + 1) if gain > most else 0
        point.append(count)
        total -= count
        short -= gain * count
    return point


def least_place(many, one, other):
    """The place with the lesser one of each two entries."""
    need_places(many, one, other)
    return lesser_form(one, other)


def greatest_place(many, one, other):
    """The place with the greater one of each two entries."""
    need_places(many, one, other)
    return greater_form(one, other)


def need_side(value):
    """Refuse what is no side of a mark."""
    if not isinstance(value, str) or value not in SIDES:
        raise InvalidSide(value)


def mark_moved(many, place, side, start, end, length):
    """Where a mark stands when what is between two places is replaced by so many letters, None if it is torn."""
    need_many(many)
    need_form_for(many, place)
    need_side(side)
    need_form_for(many, start)
    need_form_for(many, end)
    if not at_most(start, end):
        raise NotInOrder(start, end)
    need_form_for(many, length)
    if at_most(place, start) and place != start:
        return place
    if at_most(end, place) and place != end:
        return form_sum(form_difference(place, end), form_sum(start, length))
    if at_most(start, place) and at_most(place, end):
        return start if side == "left" else form_sum(start, length)
    return None
