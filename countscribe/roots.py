"""Roots of open texts: what a text is several times, and what two texts both are some times."""

from math import gcd

from countscribe.cuts import cut
from countscribe.formtools import form_times
from countscribe.piecetools import is_power, normal_pieces, powers_in
from countscribe.places import is_open_place
from countscribe.texts import OpenText, length, need_like_texts, need_text
from countscribe.wordtools import root_size


def greatest_root(text):
    """The text of which a text is a multiple, and the greatest number of times that it is taken for one."""
    need_text(text)
    if not text.pieces():
        return text, 1
    single = single_word(text)
    if single is not None:
        word, form = single
        times = greatest_divisor(form)
        return OpenText(text.many(), [(word, form_divided(form, times))]), times
    for times in range(len(powers_in(text.pieces())), 1, -1):
        start = repeated_start(text, times)
        if start is not None:
            return start, times
    return text, 1


def single_word(text):
    """The word that is no shorter one taken several times, and the form that says how often a text writes it.

    None for a text that is not one word taken again and again, and for the empty one.
    """
    listed = text.pieces()
    if not listed:
        return None
    if not is_power(listed[0]):
        word, form = listed[0]
        step = root_size(word)
        return (word[:step], form_times(len(word) // step, form)) if len(listed) == 1 else None
    (word, form), behind = listed[0], "".join([own for own, _ in listed[1:]])
    times = len(behind) // len(word)
    if len(powers_in(listed)) > 1 or behind != word * times:
        return None
    return word, (times,) + form[1:]


def greatest_divisor(form):
    """The greatest number by which all numbers of a form can be divided."""
    divisor = 0
    for number in form:
        divisor = gcd(divisor, number)
    return divisor


def form_divided(form, by):
    """The form with all its numbers divided by one by which they can be divided."""
    return tuple([number // by for number in form])


def repeated_start(text, times):
    """The text that has to be taken so many times for a text, None if there is none."""
    total = length(text)
    if greatest_divisor(total) % times:
        return None
    place = form_divided(total, times)
    if not is_open_place(text, place):
        return None
    start, _ = cut(text, place)
    return start if normal_pieces(start.pieces() * times) == text.pieces() else None


def common_root(one, other):
    """What both of two texts are some times, None if they cannot change places at every point."""
    need_like_texts(one, other)
    left, right = one.pieces(), other.pieces()
    if normal_pieces(left + right) != normal_pieces(right + left):
        return None
    if not left and not right:
        return one, 0, 0
    one_root, times = greatest_root(one)
    other_root, more = greatest_root(other)
    if not left:
        return other_root, 0, more
    if not right:
        return one_root, times, 0
    if one_root == other_root:
        return one_root, times, more
    word, form = single_word(one)
    return word, form, single_word(other)[1]
