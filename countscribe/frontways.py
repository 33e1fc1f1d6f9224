"""The least vectors of ways to write a bare word in which powers stand, without any check of what is handed in.

A step is a tuple `(vector, piece, high)`: a piece that leads to a place, and its vector. The rows tell how many powers
are passed. Fixed pieces go on letter by letter, as only the number of their letters counts.
"""

from countscribe.bestways import power_pieces
from countscribe.costs import VECTOR_SIZE, piece_vector, vector_sum
from countscribe.formtools import at_most, plain_form
from countscribe.piecetools import fixed_piece
from countscribe.wordtools import root_sizes


def taken_steps(bare, many):
    """For each place the steps by one letter and by words that are taken several times."""
    rows = []
    for low in range(len(bare) + 1):
        rest = bare[low:]
        pieces = [(fixed_piece(rest[:1], many), low + 1)] if rest else []
        for size, root in enumerate(root_sizes(rest), start=1):
            if root < size:
                pieces.append(((rest[:root], plain_form(size // root, many)), low + size))
        rows.append(vector_steps(pieces))
    return rows


def vector_steps(pieces):
    """The steps by some pieces, each of which is given with the place behind it."""
    return [(piece_vector(piece), piece, high) for piece, high in pieces]


def all_steps(bare, spots, many):
    """For each row and each place the steps within the row, and those to the next row."""
    within = taken_steps(bare, many)
    rows = []
    for spot in spots:
        rows.append([(within[low], vector_steps(power_pieces(spot, low))) for low in range(len(bare) + 1)])
    rows.append([(steps, []) for steps in within])
    return rows


def front_rows(bare, steps):
    """For each row and each place the least vectors of what is left there."""
    rows = []
    behind = []
    for row in reversed(steps):
        own = [[] for _ in row]
        for low in range(len(bare), -1, -1):
            within, leaving = row[low]
            found = {} if rows or low < len(bare) else {(0,) * VECTOR_SIZE: True}
            add_vectors(found, within, own)
            add_vectors(found, leaving, behind)
            own[low] = least_vectors(found)
        rows.append(own)
        behind = own
    return list(reversed(rows))


def add_vectors(found, steps, rests):
    """Add the vectors of all ways that begin with some steps and go on by what is left behind them."""
    for own, _, high in steps:
        for rest in rests[high]:
            found[vector_sum(own, rest)] = True


def least_vectors(found):
    """Those of some vectors beside which no other one is at most as great everywhere, in ascending order."""
    kept = []
    for one in sorted(found):
        if not any([at_most(other, one) for other in kept]):
            kept.append(one)
    return kept


def front_pieces(steps, rows, goal):
    """The pieces of a way with a vector that is one of the least, with its letters put together to fixed pieces."""
    pieces = []
    row = low = 0
    while row < len(rows) - 1 or low < len(rows[0]) - 1:
        piece, goal, row, low = next_piece(steps[row][low], rows, goal, row)
        if any(piece_vector(piece)[1:]) or not pieces or any(piece_vector(pieces[-1])[1:]):
            pieces.append(piece)
        else:
            pieces.append(fixed_piece(pieces.pop()[0] + piece[0], len(piece[1]) - 1))
    return pieces


def next_piece(steps, rows, goal, row):
    """The first piece of a way with a vector, and the vector, the row and the place behind it."""
    for ahead, found in [(row, steps[0]), (row + 1, steps[1])]:
        for own, piece, high in found:
            rest = tuple([left - right for left, right in zip(goal, own)])
            if rest in rows[ahead][high]:
                return piece, rest, ahead, high
    return None
