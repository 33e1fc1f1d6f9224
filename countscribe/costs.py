"""What writers, lists of pieces, cost at given prices."""

from countscribe.checks import is_count, is_whole
from countscribe.errors import InvalidNumber, InvalidPrices, InvalidVector
from countscribe.pieces import need_pieces
from countscribe.piecetools import fixed_piece

VECTOR_SIZE = 4


class Prices:
    """What a letter, a sign of another form, a number at an unknown and a constant beside them cost."""

    def __init__(self, *, letter=1, sign=1, unknown=1, number=1):
        if not is_whole(letter) or letter < 1:
            raise InvalidNumber(letter)
        for price in [sign, unknown, number]:
            if not is_count(price):
                raise InvalidNumber(price)
        self.letter = letter
        self.sign = sign
        self.unknown = unknown
        self.number = number

    def of(self, vector):
        """What a vector costs."""
        need_vector(vector)
        letters, signs, unknowns, numbers = vector
        return letters * self.letter + signs * self.sign + unknowns * self.unknown + numbers * self.number


def need_vector(value):
    """Refuse what is no vector."""
    if not isinstance(value, tuple) or len(value) != VECTOR_SIZE or not all([is_count(number) for number in value]):
        raise InvalidVector(value)


def chosen_prices(value):
    """The prices that are handed in, or those that None stands for; refuse what is neither."""
    if value is None:
        return Prices()
    if not isinstance(value, Prices):
        raise InvalidPrices(value)
    return value


def piece_vector(piece):
    """The vector of one piece."""
    word, form = piece
    if piece == fixed_piece(word, len(form) - 1):
        return len(word), 0, 0, 0
    return len(word), 1, len([number for number in form[1:] if number]), 1 if form[0] else 0


def vector_sum(one, other):
    """The sum of two vectors."""
    return tuple([left + right for left, right in zip(one, other)])


def vector(many, pieces):
    """The vector of a writer: its letters, signs, numbers at unknowns and constants beside signs."""
    need_pieces(many, pieces)
    return vector_of(pieces)


def vector_of(pieces):
    """The vector of a list of pieces."""
    total = (0,) * VECTOR_SIZE
    for piece in pieces:
        total = vector_sum(total, piece_vector(piece))
    return total


def cost(many, pieces, prices=None):
    """What a writer costs."""
    total = vector(many, pieces)
    return chosen_prices(prices).of(total)
