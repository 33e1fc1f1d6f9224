"""What open texts begin and end with, and what two of them have in common there."""

from countscribe.cuts import cut, stretches
from countscribe.formtools import at_most, form_difference, form_sum, lesser_form, plain_form
from countscribe.places import frame_of, is_open_place
from countscribe.texts import length, mirrored, need_like_texts
from countscribe.wordtools import alike_ahead, turned_word


def begins(text, start):
    """What is behind `start` in a text that it begins, None if it does not begin it."""
    need_like_texts(text, start)
    place = length(start)
    if not is_open_place(text, place):
        return None
    ahead, behind = cut(text, place)
    return behind if ahead == start else None


def ends(text, end):
    """What is ahead of `end` in a text that it ends, None if it does not end it."""
    need_like_texts(text, end)
    if not at_most(length(end), length(text)):
        return None
    place = form_difference(length(text), length(end))
    if not is_open_place(text, place):
        return None
    ahead, behind = cut(text, place)
    return ahead if behind == end else None


def common_beginning(one, other):
    """The greatest text that begins both."""
    need_like_texts(one, other)
    return parted(one, other)[0]


def common_ending(one, other):
    """The greatest text that ends both."""
    need_like_texts(one, other)
    return mirrored(parted(mirrored(one), mirrored(other))[0])


def stripped(one, other):
    """The common beginning, what is left of both texts between it and the common ending of the rests, and this one."""
    need_like_texts(one, other)
    start, left, right = parted(one, other)
    end, left, right = parted(mirrored(left), mirrored(right))
    return start, mirrored(left), mirrored(right), mirrored(end)


def parted(one, other):
    """The common beginning of two texts, and what each of them writes behind it."""
    left, right = frame_of(one), frame_of(other)
    left_place, right_place = common_places(left, right)
    start, left_rest = stretches(left, [left_place])
    return start, left_rest, stretches(right, [right_place])[1]


def common_places(left, right):
    """The open places of two frames behind the common beginning.

    Whatever begins both of two texts begins their common beginning, so that it can be taken letter by letter and
    power by power, in any order, until nothing begins both of what is left.
    """
    none = plain_form(0, left.unknowns)
    left_place, right_place = (0, none, 0), (0, none, 0)
    while True:
        shared = shared_power(left, left_place, right, right_place)
        letters = shared_letters(left, left_place, right, right_place)
        if not any(shared) and not letters:
            return left_place, right_place
        left_place = moved_on(left, left_place, shared, letters)
        right_place = moved_on(right, right_place, shared, letters)


def shared_power(left, left_place, right, right_place):
    """How often the power with which both of what is behind two places begin can be taken off both."""
    none = plain_form(0, left.unknowns)
    word = front_word(left, left_place)
    if not word or word != front_word(right, right_place):
        return none
    return lesser_form(power_left(left, left_place), power_left(right, right_place))


def front_word(frame, place):
    """The word of the power with which what is behind a place begins, the empty word if there is none."""
    done, _, at = place
    if done == len(frame.words) or frame.starts[done] > at:
        return ""
    return turned_word(frame.words[done], at - frame.starts[done])


def power_left(frame, place):
    """What is left, behind a place, of the power at which it stands."""
    return form_difference(frame.forms[place[0]], place[1])


def shared_letters(left, left_place, right, right_place):
    """How many letters can be taken off both of what is behind two places, past all powers ahead of them."""
    at = left_place[2]
    return alike_ahead(left.bare[at:left.limits[left_place[0]]], right.bare[at:right.limits[right_place[0]]])


def moved_on(frame, place, power, letters):
    """The open place behind a place with so much of the power at which it stands, and then so many letters."""
    done, part, at = place
    part = form_sum(part, power)
    if any(part) and part == frame.forms[done]:
        return done + 1, plain_form(0, frame.unknowns), at + letters
    return done, part, at + letters
