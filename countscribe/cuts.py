"""Open texts, cut at places at which they can be cut at every point in one way."""

from countscribe.errors import InvalidList, Unlike
from countscribe.formtools import at_most, form_sum, plain_form
from countscribe.frames import located
from countscribe.places import frame_of, need_place
from countscribe.piecetools import fixed_piece
from countscribe.texts import OpenText, need_text
from countscribe.wordtools import turned_word


def cut(text, place):
    """What is ahead of an open place of a text, and what is behind it."""
    need_text(text)
    frame = frame_of(text)
    need_place(frame, place)
    found = stretches(frame, [located(frame, place)])
    return found[0], found[1]


def parts(text, places):
    """The texts that a text is cut into at all places of a list."""
    need_text(text)
    if not isinstance(places, list):
        raise InvalidList(places)
    frame = frame_of(text)
    for index, item in enumerate(places):
        need_place(frame, item)
        if index and not at_most(places[index - 1], item):
            raise Unlike(item)
    return stretches(frame, [located(frame, item) for item in places])


def stretches(frame, places):
    """The open texts between the places of a list, and those at both ends."""
    none = plain_form(0, frame.unknowns)
    ends = places + [(len(frame.words), none, len(frame.bare))]
    found = []
    start = (0, none, 0)
    for end in ends:
        found.append(OpenText(frame.unknowns, stretch_pieces(frame, start, end)))
        start = end
    return found


def stretch_pieces(frame, start, end):
    """The pieces between two open places, the first of which is at most the second."""
    pieces = []
    at = start[2]
    for index in range(start[0], min(end[0] + 1, len(frame.words))):
        form = part_taken(frame, index, start, end)
        # A power that belongs ahead of the first letter here is moved behind the letters that are missing.
        site = max(frame.starts[index], start[2])
        if any(form):
            pieces.append(fixed_piece(frame.bare[at:site], frame.unknowns))
            pieces.append((turned_word(frame.words[index], site - frame.starts[index]), form))
            at = site
    pieces.append(fixed_piece(frame.bare[at:end[2]], frame.unknowns))
    return pieces


def part_taken(frame, index, start, end):
    """How much of a power stands between two open places."""
    form = frame.forms[index] if index < end[0] else end[1]
    if index > start[0]:
        return form
    return form_sum(form, tuple([-number for number in start[1]]))
