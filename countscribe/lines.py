"""Lines of points, and what open texts write along them."""

from countscribe.checks import MOST_UNKNOWNS, is_counts, need_count, need_point
from countscribe.errors import InvalidLine, InvalidPoint, Unlike
from countscribe.formtools import form_value, need_form_for
from countscribe.keptwalk import letter_at, place_within, sizes_of
from countscribe.runs import least_wheel
from countscribe.texts import counted, length, need_text, need_text_along, replaced


class Line:
    """A row of points, one for each count: a base and so many steps."""

    def __init__(self, base, step):
        need_some_point(base)
        need_some_point(step)
        if len(base) != len(step):
            raise Unlike(step)
        self._base = list(base)
        self._step = list(step)

    def __eq__(self, other):
        return isinstance(other, Line) and self._base == other._base and self._step == other._step

    def many(self):
        """The number of unknowns."""
        return len(self._base)

    def base(self):
        """The counts of the first point."""
        return list(self._base)

    def step(self):
        """By how much the counts of each point are greater than those of the one ahead."""
        return list(self._step)


def need_some_point(value):
    """Refuse what is no point for any number of unknowns."""
    if not isinstance(value, list) or len(value) > MOST_UNKNOWNS or not is_counts(value, len(value)):
        raise InvalidPoint(value)


def need_line(value):
    """Refuse what is no line."""
    if not isinstance(value, Line):
        raise InvalidLine(value)


def need_line_for(many, value):
    """Refuse what is no line for so many unknowns."""
    need_line(value)
    if value.many() != many:
        raise Unlike(value)


def line_point(line, count):
    """The point of a line for a count, without any check."""
    return [start + by * count for start, by in zip(line.base(), line.step())]


def point_at(line, number):
    """The point of a line for a count."""
    need_line(line)
    need_count(number)
    return line_point(line, number)


def place_on(line, point):
    """The least count for which a line has a point, None if there is none."""
    need_line(line)
    need_point(point, line.many())
    rows = list(zip(point, line.base(), line.step()))
    number = max([(count - start) // by for count, start, by in rows if by], default=0)
    return number if number >= 0 and line_point(line, number) == point else None


def along(text, line):
    """The text for one unknown that writes at each count what a text writes at the point of a line for it."""
    need_text(text)
    need_line_for(text.many(), line)
    return replaced(text, 1, list(zip(line.base(), line.step())))


def letters_along(text, place):
    """The least wheel for the letters that a text for one unknown writes at a place that a form tells."""
    need_text_along(text)
    need_form_for(1, place)
    # Two forms that do not always differ by the same have changed places, if ever, by the difference of the constants.
    since = 1 + max(place[0], length(text)[0])
    again = since + word_size_at(text, place, since)
    letters = [letter_along(text, place, count) for count in range(again)]
    return least_wheel(letters[:since], letters[since:])


def word_size_at(text, place, count):
    """The length of the word of the piece that writes the letter at a place, 1 if there is no such letter."""
    pieces = counted(text, [count])
    index, rest = place_within(sizes_of(pieces), form_value(place, [count]))
    return len(pieces[index][0]) if rest else 1


def letter_along(text, place, count):
    """The letter that a text writes, for a count, at a place that a form tells; None if it writes none there."""
    pieces = counted(text, [count])
    at = form_value(place, [count])
    return letter_at(pieces, at) if at < sum(sizes_of(pieces)) else None
