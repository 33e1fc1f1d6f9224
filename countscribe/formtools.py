"""Forms, without any check of what is handed in but of the forms themselves."""

from countscribe.checks import MOST_UNKNOWNS, is_count
from countscribe.errors import InvalidForm


def is_form_for(many, value):
    """Whether a value is a form for so many unknowns."""
    return isinstance(value, tuple) and len(value) == many + 1 and all([is_count(number) for number in value])


def is_some_form(value):
    """Whether a value is a form for some number of unknowns."""
    return isinstance(value, tuple) and 0 < len(value) <= MOST_UNKNOWNS + 1 and is_form_for(len(value) - 1, value)


def need_form(value):
    """Refuse what is no form for any number of unknowns."""
    if not is_some_form(value):
        raise InvalidForm(value)


def need_form_for(many, value):
    """Refuse what is no form for so many unknowns."""
    if not is_form_for(many, value):
        raise InvalidForm(value)


def is_forms(value, size, many):
    """Whether a value is a list of so many forms for so many unknowns."""
    if not isinstance(value, list) or len(value) != size:
        return False
    return all([is_form_for(many, form) for form in value])


def plain_form(number, many):
    """The form in which no unknown stands, with this constant."""
    return (number,) + (0,) * many


def form_value(form, point):
    """The value of a form at a point."""
    return form[0] + sum([number * count for number, count in zip(form[1:], point)])


def form_sum(one, other):
    """The sum of two forms."""
    return tuple([left + right for left, right in zip(one, other)])


def form_difference(one, other):
    """What is left of a form when another one, which is at most it, is taken off."""
    return tuple([left - right for left, right in zip(one, other)])


def lesser_form(one, other):
    """The form that has the lesser number of two forms at each place."""
    return tuple([min(left, right) for left, right in zip(one, other)])


def greater_form(one, other):
    """The form that has the greater number of two forms at each place."""
    return tuple([max(left, right) for left, right in zip(one, other)])


def form_times(number, form):
    """A form, taken a number of times."""
    return tuple([number * own for own in form])


def form_inserted(form, many, forms):
    """The form that results when each unknown is replaced by the form at its place."""
    result = plain_form(form[0], many)
    for number, other in zip(form[1:], forms):
        result = form_sum(result, form_times(number, other))
    return result


def at_most(one, other):
    """Whether each number of one form is at most the number of the other at the same place."""
    return all([left <= right for left, right in zip(one, other)])
