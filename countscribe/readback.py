"""Open texts, read back from the word that they write at one point."""

from countscribe.alike import growing_point
from countscribe.checks import need_many, need_within, need_word
from countscribe.kept import kept_of, need_kept
from countscribe.readways import text_read

MOST_SIZE = 40
MOST_SPREAD = 1000000000


def need_bounds(many, size, spread):
    """Refuse what are no number of unknowns and no bounds of a size and a spread."""
    need_many(many)
    need_within(size, 0, MOST_SIZE)
    need_within(spread, 1, MOST_SPREAD)


def reading_point(many, size, spread):
    """The point at which texts within the bounds write different words if they are not equal."""
    need_bounds(many, size, spread)
    return growing_point(size + 1, spread, many)


def read_back(many, size, spread, word):
    """The text within the bounds that writes a word at their reading point, None if there is none."""
    need_bounds(many, size, spread)
    need_word(word)
    return text_read(many, size, spread, kept_of([(word, 1)]))


def read_kept(many, size, spread, kept):
    """The text within the bounds that writes a kept word at their reading point, None if there is none."""
    need_bounds(many, size, spread)
    need_kept(kept)
    return text_read(many, size, spread, kept)
