"""What parts two open texts."""

from countscribe.keptorder import same_kept
from countscribe.texts import kept, need_like_texts, size, spread


def decisive(one, other):
    """A point at which two open texts write the same word exactly if they do so at all points."""
    need_like_texts(one, other)
    greatest = max(size(one), size(other))
    return growing_point(greatest + 1, max(spread(one), spread(other)), one.many())


def growing_point(start, factor, many):
    """The point with a number for the first unknown, and for each other one as many times the one ahead of it."""
    point = []
    for _ in range(many):
        point.append(start)
        start *= factor
    return point


def points_within(many, most):
    """All points for which the product of the numbers, each increased by 1, is at most a number, least ones first."""
    rows = [([], 1)]
    for _ in range(many):
        rows = [(point + [count], made * (count + 1)) for point, made in rows for count in range(most // made)]
    ordered = sorted([(sum(point), point) for point, _ in rows])
    return [point for _, point in ordered]


def how_many_powers(text):
    """How many powers an open text has."""
    return len([form for _, form in text.pieces() if any(form[1:])])


def parting(one, other):
    """The least point at which two open texts write different words, None if there is none."""
    need_like_texts(one, other)
    if one == other:
        return None
    for point in points_within(one.many(), 1 + how_many_powers(one) + how_many_powers(other)):
        if not same_kept(kept(one, point), kept(other, point)):
            return point
    return None
