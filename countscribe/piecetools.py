"""Lists of pieces: what they are, their measure and their normal list, without any check of arguments."""

from countscribe.checks import is_lettered
from countscribe.formtools import form_sum, form_times, is_form_for
from countscribe.wordtools import alike_behind, follows, root_size, stretch, turned_word

MOST_PIECES = 5000
MOST_MEASURE = 2000
MOST_PIECE_LETTERS = 2000


def is_piece(many, value):
    """Whether a value is a piece for so many unknowns."""
    if not isinstance(value, tuple) or len(value) != 2:
        return False
    return is_lettered(value[0], MOST_PIECE_LETTERS) and is_form_for(many, value[1])


def is_piece_list(many, value):
    """Whether a value is a list of pieces for so many unknowns, within all limits."""
    if not isinstance(value, list) or len(value) > MOST_PIECES:
        return False
    return all([is_piece(many, item) for item in value]) and measure(value) <= MOST_MEASURE


def is_open_form(form):
    """Whether an unknown stands in a form."""
    return any(form[1:])


def is_power(piece):
    """Whether a piece of a normal list is a power."""
    return piece[1][0] == 0


def fixed_piece(word, many):
    """The piece that writes a word once at every point."""
    return word, (1,) + (0,) * many


def measure(pieces):
    """The measure of a list of pieces."""
    return sum([len(word) * (form[0] + is_open_form(form)) for word, form in pieces])


def letters_in(pieces):
    """How many letters the words of a list of pieces have together."""
    return sum([len(word) for word, _ in pieces])


def powers_in(pieces):
    """The powers of a normal list."""
    return [piece for piece in pieces if is_power(piece)]


def normal_pieces(pieces):
    """The normal list that writes the same word at every point.

    The pieces are put behind a list that is normal already, so that only its end can change.
    """
    ready = []
    for word, form in pieces:
        if word and is_open_form(form):
            size = root_size(word)
            put_power(ready, word[:size], form_times(len(word) // size, (0,) + form[1:]))
        if word and form[0]:
            put_fixed(ready, word * form[0], len(form) - 1)
    return ready


def put_fixed(ready, word, many):
    """Put a fixed piece behind a normal list, which stays normal."""
    if ready and not is_power(ready[-1]):
        word = ready.pop()[0] + word
    if word:
        ready.append(fixed_piece(word, many))


def put_power(ready, word, form):
    """Put a power, with a word that is its own root, behind a normal list, which stays normal."""
    many = len(form) - 1
    behind = ""
    if ready and not is_power(ready[-1]):
        ahead = ready.pop()[0]
        moved = alike_behind(ahead, stretch(word, -len(ahead), len(ahead)))
        behind = ahead[len(ahead) - moved:]
        word = turned_word(word, -moved)
        put_fixed(ready, ahead[:len(ahead) - moved], many)
    if ready and is_power(ready[-1]) and ready[-1][0] == word:
        form = form_sum(ready.pop()[1], form)
    ready.append((word, form))
    put_fixed(ready, behind, many)


def without_start(pieces, word):
    """What is left of a normal list when a word is taken off its front, None if it cannot be at every point.

    The result need not be normal.
    """
    left = []
    for at, (own, form) in enumerate(pieces):
        if not word:
            return left + pieces[at:]
        if is_power((own, form)):
            if follows(own, word) < len(word):
                return None
            # What is taken off behind a power, taken off ahead of it instead, turns the power's word.
            left.append((turned_word(own, len(word)), form))
        elif own.startswith(word):
            left.append((own[len(word):], form))
            word = ""
        elif word.startswith(own):
            word = word[len(own):]
        else:
            return None
    return None if word else left
