"""Open texts as bits, in such a way that each string of bits is read in one way."""

from countscribe.checks import need_many
from countscribe.errors import InvalidBits
from countscribe.numbering import number_of, text_by_number
from countscribe.rowcounts import RowCounts


def bits_of(text):
    """The bits of an open text."""
    digits = f"{number_of(text) + 1:b}"
    return "1" * (len(digits) - 1) + "0" + digits[1:]


def read_bits(many, bits):
    """The open texts whose bits stand in front, one behind the other, and the bits that are left behind them."""
    need_many(many)
    if not isinstance(bits, str) or bits.count("0") + bits.count("1") < len(bits):
        raise InvalidBits(bits)
    counts = RowCounts(many)
    texts = []
    rest = bits
    while True:
        size = rest.find("0")
        if size < 0 or len(rest) < 2 * size + 1:
            return texts, rest
        # The first digit, which is 1, is left out among the bits.
        texts.append(text_by_number(counts, int("1" + rest[size + 1:2 * size + 1], 2) - 1))
        rest = rest[2 * size + 1:]
