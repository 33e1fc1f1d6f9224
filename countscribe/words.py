"""Words: their turns and roots, what two have in common, and where one stands in another."""

from countscribe.checks import MOST_LETTERS, is_lettered, need_count, need_some_word, need_word
from countscribe.wordtools import alike_ahead, alike_behind, border_sizes, follows
from countscribe.wordtools import least_turn_place, root_size, standing_places, turned_word


def is_word(value):
    """Whether a value is a word."""
    return is_lettered(value, MOST_LETTERS)


def turned(word, by):
    """The word with its first letter put behind the last one, `by` times."""
    need_word(word)
    need_count(by)
    return turned_word(word, by)


def root(word):
    """The root of a word that is not empty, and how many times it stands in the word."""
    need_some_word(word)
    size = root_size(word)
    return word[:size], len(word) // size


def period(word):
    """The least number so that any two letters that stand so many places apart are the same."""
    need_some_word(word)
    return len(word) - border_sizes(word)[-1]


def common_start(one, other):
    """How many letters two words have in common at their beginnings."""
    need_word(one)
    need_word(other)
    return alike_ahead(one, other)


def common_end(one, other):
    """How many letters two words have in common at their ends."""
    need_word(one)
    need_word(other)
    return alike_behind(one, other)


def goes_on(word, text):
    """How many letters `text` begins with of `word` taken without end."""
    need_some_word(word)
    need_word(text)
    return follows(word, text)


def places(part, text):
    """All places of `text` at which `part` begins, in ascending order."""
    need_some_word(part)
    need_word(text)
    return standing_places(part, text)


def least_turn(word):
    """The first turn of a word in order, behind the least number of letters that gives it."""
    need_word(word)
    by = least_turn_place(word)
    return by, turned_word(word, by)
