"""Lean writers: those in which each power of a text stands once, at a place that it can be moved to."""

from countscribe.checks import is_counts
from countscribe.errors import InvalidPlaces
from countscribe.formtools import form_sum, plain_form
from countscribe.pieces import need_pieces
from countscribe.piecetools import fixed_piece, is_open_form, is_piece_list, normal_pieces, powers_in
from countscribe.places import frame_of
from countscribe.texts import need_text
from countscribe.wordtools import follows, root_size, turned_word


def spots(text):
    """For each power of a text its word, its form, its place in the bare word, and how far it can be moved there."""
    need_text(text)
    return spots_in(frame_of(text))


def spots_in(frame):
    """For each power of a frame its word, form, place and reach."""
    found = []
    for word, form, place in zip(frame.words, frame.forms, frame.starts):
        found.append((word, form, place, place + follows(word, frame.bare[place:])))
    return found


def need_places(value, many):
    """Refuse what is no list of as many counts as there are powers."""
    if not is_counts(value, many):
        raise InvalidPlaces(value)


def placed(text, starts, copies):
    """The writer in which the powers stand at other places and take copies, None if they cannot."""
    need_text(text)
    frame = frame_of(text)
    need_places(starts, len(frame.words))
    need_places(copies, len(frame.words))
    rows = list(zip(spots_in(frame), starts, copies))
    pieces = []
    at = 0
    for (word, form, place, reach), start, many in rows:
        if start < max(place, at) or start + many * len(word) > reach:
            return None
        pieces.append(fixed_piece(frame.bare[at:start], frame.unknowns))
        pieces.append((turned_word(word, start - place), (many,) + form[1:]))
        at = start + many * len(word)
    pieces.append(fixed_piece(frame.bare[at:], frame.unknowns))
    return [(word, form) for word, form in pieces if word]


def is_lean(text, value):
    """Whether a value is a lean writer of a text."""
    need_text(text)
    listed = text.pieces()
    if not is_piece_list(text.many(), value) or not is_lean_list(value):
        return False
    found = [form for _, form in value if is_open_form(form)]
    return len(found) == len(powers_in(listed)) and normal_pieces(value) == listed


def is_lean_list(pieces):
    """Whether a list of pieces has nothing empty, no fixed pieces side by side, and no power of what is a power."""
    was_fixed = False
    for word, form in pieces:
        if not word or not any(form) or (is_open_form(form) and root_size(word) < len(word)):
            return False
        is_fixed = (word, form) == fixed_piece(word, len(form) - 1)
        if is_fixed and was_fixed:
            return False
        was_fixed = is_fixed
    return True


def places_of(text, value):
    """Where the powers stand in a lean writer of a text and how many copies they take, None for any other value."""
    if not is_lean(text, value):
        return None
    starts, copies = [], []
    at = 0
    for word, form in value:
        if is_open_form(form):
            starts.append(at)
            copies.append(form[0])
        at += len(word) * form[0]
    return starts, copies


def leaned(many, pieces):
    """A lean writer that writes the same as a list of pieces and has no greater number in its vector."""
    need_pieces(many, pieces)
    return fixed_joined(powers_gathered(rooted(pieces)))


def rooted(pieces):
    """The pieces that write something, with the roots of words that are taken an unknown number of times."""
    found = []
    for word, form in pieces:
        if word and any(form):
            size = root_size(word) if is_open_form(form) else len(word)
            found.append((word[:size], tuple([len(word) // size * number for number in form])))
    return found


def powers_gathered(pieces):
    """The pieces with each power put to the one ahead of it where both are one power of the text.

    Its copies stay where they are, so that no letter of the bare word moves.
    """
    ready = []
    last, start, bare = None, 0, ""
    for word, form in pieces:
        if is_open_form(form):
            if last is not None and is_same_power(ready[last][0], bare[start:], word):
                ready[last] = (ready[last][0], form_sum(ready[last][1], (0,) + form[1:]))
                form = plain_form(form[0], len(form) - 1)
            else:
                last, start = len(ready), len(bare)
        bare += word * form[0]
        if any(form):
            ready.append((word, form))
    return ready


def is_same_power(ahead, between, word):
    """Whether a word, taken any number of times, can be moved ahead of some letters and is there another word."""
    return turned_word(word, -len(between)) == ahead and follows(ahead, between) == len(between)


def fixed_joined(pieces):
    """The pieces with fixed ones that stand side by side made one."""
    ready = []
    for word, form in pieces:
        single = fixed_piece(word, len(form) - 1)[1]
        if ready and form == single and ready[-1][1] == single:
            word = ready.pop()[0] + word
        ready.append((word, form))
    return ready
