"""The cheapest ways to write a bare word in which powers stand, without any check of what is handed in.

A way goes from place to place of the bare word, and from row to row, where the row tells how many powers are passed.
A step is a tuple `(cost, piece, high)`: a piece that leads to a place, and what it costs. What is left behind a place
is kept as the cost of the best way, how many pieces it has, the first of these, and the row and the place behind it.
"""

from countscribe.costs import piece_vector
from countscribe.formtools import plain_form
from countscribe.piecetools import fixed_piece
from countscribe.wordtools import root_sizes, turned_word


def plain_steps(bare, many, prices):
    """For each place the best steps, by pieces in which no unknown stands, to each later place."""
    rows = []
    for low in range(len(bare) + 1):
        rest, steps = bare[low:], []
        for size, root in enumerate(root_sizes(rest), start=1):
            pieces = [fixed_piece(rest[:size], many)]
            if root < size:
                pieces.append((rest[:root], plain_form(size // root, many)))
            # Of two that cost the same, the one with the shorter word comes first in order.
            steps.append(min([priced_step(piece, low + size, prices) for piece in pieces]))
        rows.append(steps)
    return rows


def priced_step(piece, high, prices):
    """The step by a piece to a place."""
    return prices.of(piece_vector(piece)), piece, high


def power_pieces(spot, low):
    """The pieces with which a power can stand at a place, each with the place behind its copies."""
    word, form, place, reach = spot
    if not place <= low <= reach:
        return []
    ahead, size = turned_word(word, low - place), len(word)
    return [((ahead, (copies,) + form[1:]), low + copies * size) for copies in range((reach - low) // size + 1)]


def power_steps(bare, spot, prices):
    """For each place the steps by the piece of a power."""
    rows = []
    for low in range(len(bare) + 1):
        rows.append([priced_step(piece, high, prices) for piece, high in power_pieces(spot, low)])
    return rows


def best_rests(bare, spots, many, prices):
    """For each row and each place what is left in the best way, None where no way leads to the end."""
    steps = plain_steps(bare, many, prices)
    rests = [filled_row([None] * len(bare) + [(0, 0)], steps, len(spots))]
    for row in range(len(spots) - 1, -1, -1):
        jumps = power_steps(bare, spots[row], prices)
        entered = [min(ways_on(found, row + 1, rests[0]), default=None) for found in jumps]
        rests = [filled_row(entered, steps, row)] + rests
    return rests


def filled_row(entered, steps, row):
    """What is left behind the places of a row, where it is known for those ways that leave the row at once."""
    own = list(entered)
    for place in range(len(own) - 1, -1, -1):
        found = ways_on(steps[place], row, own)
        if own[place] is not None:
            found.append(own[place])
        own[place] = min(found, default=None)
    return own


def ways_on(steps, row, rests):
    """The ways that begin with some steps into a row and go on there in the best way."""
    found = []
    for cost, piece, high in steps:
        if rests[high] is not None:
            found.append((cost + rests[high][0], 1 + rests[high][1], piece, row, high))
    return found


def best_pieces(rests):
    """The pieces of the best way."""
    pieces = []
    rest = rests[0][0]
    while rest[1]:
        pieces.append(rest[2])
        rest = rests[rest[3]][rest[4]]
    return pieces


def paper_rows(rests):
    """Numbers for all rows and places, none of which is greater than one ahead by more than the steps between cost."""
    most = max([rest[0] for row in rests for rest in row if rest is not None])
    total = rests[0][0][0]
    # Where no way leads to the end, any cost does that is great enough.
    return [[total - (most if rest is None else rest[0]) for rest in row] for row in rests]


def is_within_steps(low_row, high_row, steps):
    """Whether no number of a row is greater than one of another row by more than the steps between cost."""
    for low, found in enumerate(steps):
        for cost, _, high in found:
            if high_row[high] - low_row[low] > cost:
                return False
    return True


def are_paper_rows(rows, bare, spots, many, prices):
    """Whether no number of some rows is greater than one ahead by more than the steps between cost."""
    steps = plain_steps(bare, many, prices)
    if not all([is_within_steps(row, row, steps) for row in rows]):
        return False
    for index, spot in enumerate(spots):
        if not is_within_steps(rows[index], rows[index + 1], power_steps(bare, spot, prices)):
            return False
    return True
