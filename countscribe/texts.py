"""Open texts: what lists of pieces write at all points."""

from countscribe.checks import MOST_LETTERS, is_letter, is_lettered, need_count, need_many, need_point
from countscribe.errors import InvalidImages, InvalidList, InvalidText, InvalidWord, TooLong, Unlike
from countscribe.formtools import form_inserted, form_sum, form_times, form_value, is_forms, plain_form
from countscribe.kept import KeptWord
from countscribe.pieces import need_measure, normal
from countscribe.piecetools import letters_in, measure, powers_in

MOST_IMAGE_LETTERS = 40


class OpenText:
    """What a list of pieces writes at all points, kept as its normal list."""

    def __init__(self, many, pieces):
        self._pieces = normal(many, pieces)
        self._many = many

    def __eq__(self, other):
        return isinstance(other, OpenText) and self._many == other._many and self._pieces == other._pieces

    def many(self):
        """The number of unknowns."""
        return self._many

    def pieces(self):
        """The normal list of pieces."""
        return list(self._pieces)


def need_text(value):
    """Refuse what is no open text."""
    if not isinstance(value, OpenText):
        raise InvalidText(value)


def need_text_along(value):
    """Refuse what is no open text for one unknown."""
    need_text(value)
    if value.many() != 1:
        raise InvalidText(value)


def need_like_texts(one, other):
    """Refuse what are no two open texts for equally many unknowns."""
    need_text(one)
    need_text(other)
    if one.many() != other.many():
        raise Unlike(other)


def text_of(many, pieces):
    """The open text of such pieces, whose words may be too long to be handed in."""
    need_measure(measure(pieces))
    return OpenText(many, pieces)


def size(text):
    """How many letters the words of the normal pieces have together."""
    need_text(text)
    return letters_in(text.pieces())


def spread(text):
    """1 plus the greatest number that stands at an unknown in a form of a power."""
    need_text(text)
    return 1 + max([max(form[1:]) for _, form in powers_in(text.pieces())], default=0)


def unknowns(text):
    """The numbers of the unknowns that stand in a form of a power, in order."""
    need_text(text)
    forms = [form for _, form in powers_in(text.pieces())]
    return [at for at in range(text.many()) if any([form[at + 1] for form in forms])]


def counted(text, point):
    """The words of the normal pieces with the values of their forms at a point."""
    return [(word, form_value(form, point)) for word, form in text.pieces()]


def written(text, point):
    """The word that is written at a point, where it is not too long."""
    need_text(text)
    need_point(point, text.many())
    total = form_value(length(text), point)
    if total > MOST_LETTERS:
        raise TooLong(total)
    return word_at(text, point)


def word_at(text, point):
    """The word that is written at a point, however long it is."""
    return "".join([word * times for word, times in counted(text, point)])


def kept(text, point):
    """The word that is written at a point as a kept word, however long it is."""
    need_text(text)
    need_point(point, text.many())
    return KeptWord(counted(text, point))


def length(text):
    """The form whose value at each point is the number of letters that are written there."""
    need_text(text)
    total = plain_form(0, text.many())
    for word, form in text.pieces():
        total = form_sum(total, form_times(len(word), form))
    return total


def letters(text, letter):
    """The form whose value at each point is how many of the letters there are this one."""
    need_text(text)
    if not is_letter(letter):
        raise InvalidWord(letter)
    total = plain_form(0, text.many())
    for word, form in text.pieces():
        total = form_sum(total, form_times(word.count(letter), form))
    return total


def joined(one, other):
    """The text that writes what `one` and, behind it, what `other` writes."""
    need_like_texts(one, other)
    return text_of(one.many(), one.pieces() + other.pieces())


def repeated(text, times):
    """The text that writes what a text writes, so many times."""
    need_text(text)
    need_count(times)
    pieces = text.pieces()
    # A number of times may be too great for a list, even for one that stays empty.
    if not pieces:
        return text_of(text.many(), [])
    need_measure(measure(pieces) * times)
    return text_of(text.many(), pieces * times)


def mirrored(text):
    """The text that writes the letters in the opposite order."""
    need_text(text)
    return text_of(text.many(), [(word[::-1], form) for word, form in reversed(text.pieces())])


def is_images(value):
    """Whether a value is a dictionary of short words for letters."""
    if not isinstance(value, dict) or not all([is_letter(letter) for letter in value]):
        return False
    return all([is_lettered(value[letter], MOST_IMAGE_LETTERS) for letter in value])


def mapped(text, images):
    """The text that writes, for each letter, the word that `images` has for it, if it has one."""
    need_text(text)
    if not is_images(images):
        raise InvalidImages(images)
    pieces = []
    for word, form in text.pieces():
        pieces.append(("".join([images.get(letter, letter) for letter in word]), form))
    return text_of(text.many(), pieces)


def replaced(text, many, forms):
    """The text for `many` unknowns that writes what a text writes at the point of the values of `forms`."""
    need_text(text)
    need_many(many)
    if not is_forms(forms, text.many(), many):
        raise InvalidList(forms)
    return text_of(many, [(word, form_inserted(form, many, forms)) for word, form in text.pieces()])
