"""Lists of pieces and the normal one of those that write the same."""

from countscribe.checks import need_many
from countscribe.errors import InvalidPiece, InvalidPieces, TooLong
from countscribe.piecetools import MOST_MEASURE, MOST_PIECES, is_piece, is_piece_list, measure, normal_pieces


def need_pieces(many, pieces):
    """Refuse what is no list of pieces for a number of unknowns, or one of too great a measure."""
    need_many(many)
    if not isinstance(pieces, list) or len(pieces) > MOST_PIECES:
        raise InvalidPieces(pieces)
    for item in pieces:
        if not is_piece(many, item):
            raise InvalidPiece(item)
    need_measure(measure(pieces))


def need_measure(total):
    """Refuse a measure that is too great."""
    if total > MOST_MEASURE:
        raise TooLong(total)


def normal(many, pieces):
    """The normal list that writes the same word as a list of pieces at every point."""
    need_pieces(many, pieces)
    return normal_pieces(pieces)


def is_normal(many, value):
    """Whether a value is a normal list of pieces for `many` unknowns."""
    need_many(many)
    # For each list there is exactly one normal list that writes the same.
    return is_piece_list(many, value) and normal_pieces(value) == value
