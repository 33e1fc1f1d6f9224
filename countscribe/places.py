"""The places at which an open text can be cut at every point in one way."""

from countscribe.checks import need_within
from countscribe.errors import NotOpen
from countscribe.formtools import at_most, is_form_for, need_form_for
from countscribe.frames import Frame, counts_ahead, greatest_below, least_above, located
from countscribe.frames import numbered_place, place_form, place_number_of
from countscribe.texts import length, need_text


def frame_of(text):
    """The frame of an open text."""
    return Frame(text.many(), text.pieces())


def need_place(frame, form):
    """Refuse what is no form for the unknowns of a frame, and a form that is no open place of it."""
    need_form_for(frame.unknowns, form)
    if located(frame, form) is None:
        raise NotOpen(form)


def is_open_place(text, value):
    """Whether a value is an open place of a text."""
    need_text(text)
    return is_form_for(text.many(), value) and located(frame_of(text), value) is not None


def how_many_places(text):
    """How many open places a text has."""
    need_text(text)
    return counts_ahead(frame_of(text))[-1]


def open_place(text, number):
    """The open place with a number."""
    need_text(text)
    frame = frame_of(text)
    counts = counts_ahead(frame)
    need_within(number, 0, counts[-1] - 1)
    return place_form(frame, numbered_place(frame, counts, number))


def place_number(text, place):
    """The number of an open place."""
    need_text(text)
    frame = frame_of(text)
    need_place(frame, place)
    return place_number_of(frame, located(frame, place))


def place_below(text, form):
    """The greatest open place that is at most a form."""
    need_text(text)
    need_form_for(text.many(), form)
    frame = frame_of(text)
    return place_form(frame, greatest_below(frame, form))


def place_above(text, form):
    """The least open place that a form is at most, None if the form is not at most the length."""
    need_text(text)
    need_form_for(text.many(), form)
    if not at_most(form, length(text)):
        return None
    frame = frame_of(text)
    return place_form(frame, least_above(frame, form))
