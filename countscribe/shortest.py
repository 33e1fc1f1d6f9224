"""The cheapest writers of open texts, and papers that prove that none is cheaper."""

from countscribe.bestways import are_paper_rows, best_pieces, best_rests, paper_rows
from countscribe.checks import is_whole
from countscribe.costs import chosen_prices, vector_of
from countscribe.lean import is_lean, spots_in
from countscribe.places import frame_of
from countscribe.plainwriters import is_row
from countscribe.texts import need_text


def rests_of(text, prices):
    """What is left in the best way at each place of the bare word of a text."""
    frame = frame_of(text)
    return best_rests(frame.bare, spots_in(frame), frame.unknowns, prices)


def least_cost(text, prices=None):
    """The least that any writer of a text costs."""
    need_text(text)
    return rests_of(text, chosen_prices(prices))[0][0][0]


def least_writer(text, prices=None):
    """The first one in order of the writers with the fewest pieces of those that cost least."""
    need_text(text)
    return best_pieces(rests_of(text, chosen_prices(prices)))


def writer_paper(text, prices=None):
    """The least cost of a writer of a text, such a writer, and rows of numbers that prove that none costs less."""
    need_text(text)
    rests = rests_of(text, chosen_prices(prices))
    return rests[0][0][0], best_pieces(rests), paper_rows(rests)


def is_writer_paper(text, prices, value):
    """Whether a value is a cost, a lean writer of a text that costs this, and rows that prove it least."""
    need_text(text)
    chosen = chosen_prices(prices)
    if not isinstance(value, tuple) or len(value) != 3:
        return False
    total, writer, rows = value
    frame = frame_of(text)
    if not is_lean(text, writer) or not is_row_list(rows, len(frame.words) + 1, len(frame.bare) + 1):
        return False
    if not is_whole(total) or not total == rows[-1][-1] - rows[0][0] == chosen.of(vector_of(writer)):
        return False
    return are_paper_rows(rows, frame.bare, spots_in(frame), frame.unknowns, chosen)


def is_row_list(value, many, size):
    """Whether a value is a list of so many lists of so many whole numbers."""
    return isinstance(value, list) and len(value) == many and all([is_row(row, size) for row in value])
