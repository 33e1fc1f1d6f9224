"""Forms: sums of counts that are not given yet."""

from countscribe.checks import need_count, need_many, need_point
from countscribe.errors import InvalidList, Unlike
from countscribe.formtools import at_most, form_inserted, form_sum, form_times, form_value
from countscribe.formtools import is_form_for, is_forms, need_form


def is_form(many, value):
    """Whether a value is a form for `many` unknowns."""
    need_many(many)
    return is_form_for(many, value)


def need_two_forms(one, other):
    """Refuse what are no two forms for equally many unknowns."""
    need_form(one)
    need_form(other)
    if len(one) != len(other):
        raise Unlike(other)


def value(form, point):
    """The value of a form at a point."""
    need_form(form)
    need_point(point, len(form) - 1)
    return form_value(form, point)


def added(one, other):
    """The sum of two forms."""
    need_two_forms(one, other)
    return form_sum(one, other)


def scaled(number, form):
    """The form, taken `number` times."""
    need_count(number)
    need_form(form)
    return form_times(number, form)


def below(one, other):
    """Whether the value of `one` is at most that of `other` at every point."""
    need_two_forms(one, other)
    return at_most(one, other)


def inserted(form, many, forms):
    """The form for `many` unknowns with each unknown of `form` replaced by the form at its place in `forms`."""
    need_form(form)
    need_many(many)
    if not is_forms(forms, len(form) - 1, many):
        raise InvalidList(forms)
    return form_inserted(form, many, forms)
