"""The fronts of open texts: the vectors of writers beside which no writer is at most as great everywhere."""

from countscribe.costs import need_vector
from countscribe.frontways import all_steps, front_pieces, front_rows
from countscribe.lean import spots_in
from countscribe.places import frame_of
from countscribe.texts import need_text


def steps_of_text(text):
    """The bare word of a text, and the steps from its places."""
    frame = frame_of(text)
    return frame.bare, all_steps(frame.bare, spots_in(frame), frame.unknowns)


def front(text):
    """All vectors of writers of a text beside which no other vector is at most as great everywhere."""
    need_text(text)
    bare, steps = steps_of_text(text)
    return front_rows(bare, steps)[0][0]


def front_writer(text, vector):
    """A lean writer of a text with a vector of its front, None for another vector."""
    need_text(text)
    need_vector(vector)
    bare, steps = steps_of_text(text)
    rows = front_rows(bare, steps)
    return front_pieces(steps, rows, vector) if vector in rows[0][0] else None
