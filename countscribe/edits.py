"""Splices: open texts with another one in the stead of what stands between two open places."""

from countscribe.beginnings import begins, common_ending, ends, stripped
from countscribe.cuts import stretches
from countscribe.errors import NotInOrder, Unlike
from countscribe.formtools import at_most, form_difference, form_sum
from countscribe.frames import located
from countscribe.places import frame_of, need_place
from countscribe.texts import OpenText, length, need_like_texts, need_text, text_of


def need_range(frame, start, end):
    """Refuse what are no two open places of a frame, the first at most the second."""
    need_place(frame, start)
    need_place(frame, end)
    if not at_most(start, end):
        raise NotInOrder(start, end)


def three_parts(text, start, end):
    """What stands ahead of, between and behind two open places of a text."""
    frame = frame_of(text)
    need_range(frame, start, end)
    return stretches(frame, [located(frame, start), located(frame, end)])


def spliced(text, start, end, given):
    """The text with another one in the stead of what stands between two open places."""
    need_text(text)
    ahead, _, behind = three_parts(text, start, end)
    need_text(given)
    if given.many() != text.many():
        raise Unlike(given)
    return text_of(text.many(), ahead.pieces() + given.pieces() + behind.pieces())


def put(text, place, given):
    """The text with another one put at an open place."""
    return spliced(text, place, place, given)


def taken(text, start, end):
    """The text without what stands between two open places."""
    need_text(text)
    return spliced(text, start, end, OpenText(text.many(), []))


def least_splice(old, new):
    """The two places and the text of the splice that makes one text of another and takes and puts the least."""
    need_like_texts(old, new)
    common, out, given, _ = stripped(old, new)
    start = length(common)
    return start, form_sum(start, length(out)), given


def first_start(old, new):
    """The least place at which a splice that takes out as little as the least one can start."""
    start, end, _ = least_splice(old, new)
    behind = form_difference(length(old), length(common_ending(old, new)))
    return form_difference(behind, form_difference(end, start))


def filling(old, new, start, end):
    """The text that makes one text of another between two open places, None if there is none."""
    need_like_texts(old, new)
    ahead, _, behind = three_parts(old, start, end)
    rest = begins(new, ahead)
    return None if rest is None else ends(rest, behind)
