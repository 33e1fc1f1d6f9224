"""What numbers, words and points have to be, and the errors for those that are not."""

from countscribe.errors import InvalidNumber, InvalidPoint, InvalidWord

MOST_LETTERS = 20000
MOST_UNKNOWNS = 3


def is_whole(value):
    """Whether a value is a whole number; a Boolean is none."""
    return isinstance(value, int) and not isinstance(value, bool)


def is_count(value):
    """Whether a value is a whole number of at least 0."""
    return is_whole(value) and value >= 0


def is_within(value, low, high):
    """Whether a value is a whole number with these bounds."""
    return is_whole(value) and low <= value <= high


def is_lettered(value, most):
    """Whether a value is a string of at most so many letters, perhaps empty."""
    if not isinstance(value, str) or len(value) > most:
        return False
    return value == "" or (value.isascii() and value.isalpha() and value.islower())


def is_letter(value):
    """Whether a value is one letter."""
    return is_lettered(value, 1) and value != ""


def is_counts(value, many):
    """Whether a value is a list of so many counts."""
    return isinstance(value, list) and len(value) == many and all([is_count(number) for number in value])


def need_count(value):
    """Refuse what is no count."""
    if not is_count(value):
        raise InvalidNumber(value)


def need_within(value, low, high):
    """Refuse what is no whole number with these bounds."""
    if not is_within(value, low, high):
        raise InvalidNumber(value)


def need_many(value):
    """Refuse what is no number of unknowns."""
    need_within(value, 0, MOST_UNKNOWNS)


def need_word(value):
    """Refuse what is no word."""
    if not is_lettered(value, MOST_LETTERS):
        raise InvalidWord(value)


def need_some_word(value):
    """Refuse what is no word, and the empty word."""
    if not is_lettered(value, MOST_LETTERS) or value == "":
        raise InvalidWord(value)


def need_point(value, many):
    """Refuse what is no point for so many unknowns."""
    if not is_counts(value, many):
        raise InvalidPoint(value)
