"""Open texts that write turns of each other at every point."""

from countscribe.alike import growing_point
from countscribe.keptorder import is_turn_of
from countscribe.piecetools import fixed_piece, is_power, normal_pieces, powers_in, without_start
from countscribe.rows import row_key
from countscribe.texts import OpenText, kept, need_like_texts, need_text, size, spread
from countscribe.wordtools import least_turn_place, turned_word


def ring_point(one, other):
    """A point at which two open texts write turns of each other exactly if they do so at every point."""
    need_like_texts(one, other)
    greatest = max(size(one), size(other), 1)
    return growing_point(5 * greatest, 2 * max(spread(one), spread(other)), one.many())


def same_ring(one, other):
    """Whether two open texts write turns of each other at every point."""
    point = ring_point(one, other)
    return is_turn_of(kept(one, point), kept(other, point))


def ring(text):
    """The first text, in the row of all, of those that write turns of what a text writes at every point."""
    need_text(text)
    listed = text.pieces()
    if powers_in(listed):
        return OpenText(text.many(), min(ring_lists(listed), key=row_key))
    return OpenText(text.many(), [(turned_word(word, least_turn_place(word)), form) for word, form in listed])


def ring_lists(listed):
    """The normal lists, of those that write turns at every point, that part no power."""
    found = []
    for start in power_starts(joined_round(listed)):
        found.extend(moved_lists(start, front_put_behind))
        found.extend(moved_lists(start, end_put_in_front))
    return found


def power_starts(listed):
    """For each power of a normal list the normal list that begins with it and goes round."""
    found = []
    for index, piece in enumerate(listed):
        if is_power(piece):
            found.append(normal_pieces(listed[index:] + listed[:index]))
    return found


def joined_round(listed):
    """A normal list that goes round with as few powers as there can be, where the end and the front meet."""
    fewer = [listed]
    while fewer:
        listed = fewer[0]
        fewer = [start for start in power_starts(listed) if len(powers_in(start)) < len(powers_in(listed))]
    return listed


def moved_lists(start, move):
    """A normal list and those that come from it by moves of a letter, up to the last one that can be made."""
    found = []
    listed = start
    while listed is not None:
        found.append(listed)
        listed = move(listed)
        if listed == start:
            return found
    return found


def front_put_behind(listed):
    """The normal list with the first letter put behind, None if there is none at every point.

    Where there are powers alone, a letter with which all of them begin is as good as one in front.
    """
    letter = fixed_piece(listed[0][0][0], len(listed[0][1]) - 1)
    left = without_start(listed + [letter], letter[0])
    return None if left is None else normal_pieces(left)


def end_put_in_front(listed):
    """The normal list with the last letter put in front, None if there is none at every point.

    Where there are powers alone, a letter with which all of them end is as good as one at the end.
    """
    letter = fixed_piece(listed[-1][0][-1], len(listed[-1][1]) - 1)
    moved = normal_pieces([letter] + listed)
    word, form = moved[-1]
    return None if is_power(moved[-1]) else normal_pieces(moved[:-1] + [(word[:-1], form)])
