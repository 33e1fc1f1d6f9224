"""The row in which all open texts for equally many unknowns stand."""

from countscribe.piecetools import letters_in, powers_in


def weight_of(listed):
    """The weight of a normal list: its letters and the binary digits of the numbers at unknowns of its powers."""
    digits = 0
    for _, form in powers_in(listed):
        digits += sum([number.bit_length() for number in form])
    return letters_in(listed) + digits


def row_key(listed):
    """What tells which of two normal lists stands first in the row."""
    return weight_of(listed), listed
