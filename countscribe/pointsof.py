"""The points at which a text writes a word, and the short words that several texts write."""

from countscribe.checks import need_within, need_word
from countscribe.errors import InvalidList, InvalidText, TooLong
from countscribe.texts import length, need_text, unknowns, word_at

MOST_LETTERS_SOUGHT = 200
MOST_TEXTS = 4
MOST_LETTERS_SHARED = 40


def need_bound_text(value):
    """Refuse what is no open text, and one that writes the same word for ever more counts of some unknown."""
    need_text(value)
    if len(unknowns(value)) < value.many():
        raise InvalidText(value)


def points_of(text, word):
    """All points, in order, at which a text writes a word."""
    need_bound_text(text)
    need_word(word)
    if len(word) > MOST_LETTERS_SOUGHT:
        raise TooLong(len(word))
    return [point for point in points_at(length(text), len(word)) if word_at(text, point) == word]


def points_at(form, total):
    """All points, in order, at which a form, whose numbers at unknowns are all above 0, has a value."""
    if len(form) == 1:
        return [[]] if form[0] == total else []
    rows = points_up_to(form[:-1], total)
    return [point + [left // form[-1]] for point, left in rows if left % form[-1] == 0]


def points_up_to(form, most):
    """All points, in order, at which such a form has at most a value, each with what is missing to it."""
    rows = [([], most - form[0])] if form[0] <= most else []
    for number in form[1:]:
        rows = [(point + [count], left - number * count) for point, left in rows for count in range(left // number + 1)]
    return rows


def shared_words(texts, most):
    """All words of at most so many letters that each of some texts writes, the shorter ones first."""
    if not isinstance(texts, list) or not 1 <= len(texts) <= MOST_TEXTS:
        raise InvalidList(texts)
    for item in texts:
        need_bound_text(item)
    need_within(most, 0, MOST_LETTERS_SHARED)
    found = words_up_to(texts[0], most)
    for text in texts[1:]:
        own = words_up_to(text, most)
        found = {word: True for word in found if word in own}
    return sorted(sorted(found), key=len)


def words_up_to(text, most):
    """The words of at most so many letters that a text writes, as keys."""
    return {word_at(text, point): True for point, _ in points_up_to(length(text), most)}
