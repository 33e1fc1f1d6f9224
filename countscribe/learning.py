"""All open texts that fit examples, and the point at which to ask on."""

from countscribe.alike import how_many_powers, points_within
from countscribe.checks import need_many
from countscribe.errors import InvalidExamples, TooMany
from countscribe.examples import need_examples
from countscribe.fitways import all_steps, allowed_behind, first_place, last_place, told_backwards
from countscribe.rows import row_key
from countscribe.texts import OpenText, word_at

MOST_FITTING = 200


def need_full_examples(many, value):
    """Refuse what are no examples in which each unknown is above 0 somewhere."""
    need_many(many)
    need_examples(many, value)
    if not all([any([point[at] for point, _ in value]) for at in range(many)]):
        raise InvalidExamples(value)


def how_many_fit(many, examples):
    """How many open texts fit full examples."""
    need_full_examples(many, examples)
    return how_many_from(counted_ways(examples, all_steps(many, examples)), examples)


def counted_ways(examples, steps):
    """For each place how many ways lead from there to the end, by what they begin with."""
    return told_backwards(steps, last_place(examples), 1, 0, many_ways)


def many_ways(told, steps):
    """How many ways to the end begin with one of some steps."""
    return sum([sum(allowed_behind(told[place], piece)) for piece, place in steps])


def how_many_from(told, examples):
    """How many ways there are from the place at which nothing is written."""
    return sum(allowed_behind(told[first_place(examples)], None))


def fitting(many, examples):
    """All open texts that fit full examples, in the order of the row."""
    need_full_examples(many, examples)
    steps = all_steps(many, examples)
    told = counted_ways(examples, steps)
    total = how_many_from(told, examples)
    if total > MOST_FITTING:
        raise TooMany(total)
    return [OpenText(many, listed) for listed in sorted(listed_ways(steps, told, first_place(examples)), key=row_key)]


def listed_ways(steps, told, start):
    """The lists of pieces of all ways from a place to the end."""
    found = []
    rows = [([], start)]
    while rows:
        listed, place = rows.pop()
        if told[place][0]:
            found.append(listed)
        last = listed[-1] if listed else None
        for own in allowed_behind(([],) + steps[place], last):
            for piece, behind in own:
                # No way is begun that does not lead to the end.
                if any(allowed_behind(told[behind], piece)):
                    rows.append((listed + [piece], behind))
    return found


def next_point(many, examples):
    """The least point at which two of the texts that fit write different words, None if there is none."""
    texts = fitting(many, examples)
    # Two texts that write the same at all these points are equal.
    most = 1 + 2 * max([how_many_powers(text) for text in texts], default=0)
    for point in points_within(many, most):
        if len({word_at(text, point) for text in texts}) > 1:
            return point
    return None
