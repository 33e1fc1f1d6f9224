"""Open texts with a count taken as later, as earlier, or more thinly."""

from countscribe.checks import need_count, need_within
from countscribe.errors import InvalidNumber
from countscribe.formtools import plain_form
from countscribe.piecetools import is_power, without_start
from countscribe.texts import OpenText, length, need_text, replaced


def need_unknown(text, at):
    """Refuse what is no open text, or no number of an unknown of it."""
    need_text(text)
    need_within(at, 0, text.many() - 1)


def unit_form(number, many):
    """The form in which this unknown alone stands, once."""
    return plain_form(0, number) + (1,) + (0,) * (many - number - 1)


def later(text, at, by):
    """The text that writes at each point what a text writes where one count is greater by `by`."""
    need_unknown(text, at)
    need_count(by)
    many = text.many()
    forms = [unit_form(number, many) for number in range(many)]
    forms[at] = (by,) + forms[at][1:]
    return replaced(text, many, forms)


def earlier(text, at):
    """The text whose later one is this text, None if there is none."""
    need_unknown(text, at)
    return moved_back(text, at, 1)


def moved_back(text, at, by):
    """The text that is this text where one count is greater by `by`, None if there is none."""
    total = length(text)
    if total[at + 1] * by > total[0]:
        return None
    rest = []
    for word, form in reversed(text.pieces()):
        if is_power((word, form)):
            # What the power writes for the greater count stands behind it.
            rest = without_start(rest, word * (form[at + 1] * by))
            if rest is None:
                return None
        rest = [(word, form)] + rest
    return OpenText(text.many(), rest)


def thinned(text, at, by):
    """The text that writes, where one count is `by` times as great, what a text writes; None if there is none."""
    need_unknown(text, at)
    need_positive(by)
    pieces = []
    for word, form in text.pieces():
        if form[at + 1] % by:
            return None
        pieces.append((word, form[:at + 1] + (form[at + 1] // by,) + form[at + 2:]))
    return OpenText(text.many(), pieces)


def need_positive(value):
    """Refuse what is no whole number of at least 1."""
    need_count(value)
    if value == 0:
        raise InvalidNumber(value)


def first(text, at):
    """The earliest text of which a text is a later one, and by how much the count is greater."""
    need_unknown(text, at)
    total = length(text)
    if not total[at + 1]:
        return text, 0
    # Where a text has one that is earlier by some number, it has one for each lesser number too.
    low, high = 0, total[0] // total[at + 1]
    while low < high:
        middle = (low + high + 1) // 2
        if moved_back(text, at, middle) is None:
            high = middle - 1
        else:
            low = middle
    return moved_back(text, at, low), low
