"""The row in which all open texts stand, by their weights, and the numbers of the texts there."""

from countscribe.checks import need_count, need_many, need_within
from countscribe.errors import TooLong, TooMany
from countscribe.rowcounts import RowCounts
from countscribe.rows import weight_of
from countscribe.rowwalk import listed_by_number, row_number
from countscribe.texts import OpenText, need_text

MOST_WEIGHT = 60


def weight(text):
    """The letters of the words of a text, and the binary digits of the numbers at unknowns of its powers."""
    need_text(text)
    return weight_of(text.pieces())


def counts_up_to(many, most):
    """The counts for all weights up to one."""
    counts = RowCounts(many)
    for _ in range(most):
        counts.grow()
    return counts


def how_many(many, weight):
    """How many open texts for `many` unknowns have a weight."""
    need_many(many)
    need_within(weight, 0, MOST_WEIGHT)
    return counts_up_to(many, weight).free[weight]


def number_of(text):
    """How many open texts for as many unknowns stand ahead of a text in the row."""
    need_text(text)
    own = weight_of(text.pieces())
    if own > MOST_WEIGHT:
        raise TooLong(own)
    return row_number(counts_up_to(text.many(), own), text.pieces())


def numbered(many, number):
    """The open text for `many` unknowns that has a number in the row."""
    need_many(many)
    need_count(number)
    return text_by_number(RowCounts(many), number)


def text_by_number(counts, number):
    """The open text that has a number in the row, where the counts grow as far as they have to."""
    own, left = 0, number
    while left >= counts.free[own]:
        left -= counts.free[own]
        own += 1
        if own > MOST_WEIGHT:
            raise TooMany(number)
        if own == len(counts.free):
            counts.grow()
    return OpenText(counts.unknowns, listed_by_number(counts, own, left))
