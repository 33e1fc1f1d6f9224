"""How an open text is read from a kept word, without any check of what is handed in.

At the reading point each power takes its word more often than there are letters in all words of the text together.
So it can be told from what is around it: nothing else, unless it is a part of it, goes on with one word for so long.
"""

from countscribe.alike import growing_point
from countscribe.keptorder import same_kept
from countscribe.keptwalk import alike_from
from countscribe.piecetools import fixed_piece
from countscribe.texts import OpenText, kept, size, spread


def text_read(many, most, base, whole):
    """The open text with bounds of its size and its spread that writes a kept word at their reading point, or None."""
    pieces = pieces_read(many, most, base, whole)
    if pieces is None:
        return None
    text = OpenText(many, pieces)
    if size(text) > most or spread(text) > base:
        return None
    point = growing_point(most + 1, base, many)
    return text if same_kept(kept(text, point), whole) else None


def pieces_read(many, most, base, whole):
    """The only pieces that can write a kept word, None if it is plain that there are none."""
    pieces = []
    at, left = 0, most
    while True:
        window = whole.part(at, min(at + (most + 1) * left, whole.length())).plain()
        ahead, step = power_ahead(window, left, most + 1)
        if not step:
            break
        same = alike_from(whole.pieces(), at + ahead + step, whole.pieces(), at + ahead)
        times = (same + step) // ((most + 1) * step)
        form = form_of_digits(times, base, many)
        if form is None:
            return None
        pieces.append(fixed_piece(window[:ahead], many))
        pieces.append((window[ahead:ahead + step], form))
        at += ahead + times * (most + 1) * step
        left -= ahead + step
    if whole.length() - at > left:
        return None
    return pieces + [fixed_piece(window, many)]


def power_ahead(window, left, least):
    """How many letters are ahead of the first power, and how many its word has; 0 of these if there is none."""
    for start in range(left):
        for step in range(1, left - start + 1):
            end = start + least * step
            if end <= len(window) and window[start:end - step] == window[start + step:end]:
                return start, step
    return 0, 0


def form_of_digits(number, base, many):
    """The form whose numbers at unknowns are the digits of a number, the least ones first; None if there are more."""
    form = (0,)
    for _ in range(many):
        form = form + (number % base,)
        number = number // base
    return None if number else form
