"""Lean writers by their numbers: how many there are, and which one stands where in order.

A lean writer is a way from place to place of the bare word, and from row to row, where the row tells how many powers
are passed. A step is a tuple `(piece, row, high)`: a piece, and the row and the place behind it.
"""

from countscribe.bestways import power_pieces
from countscribe.checks import need_within
from countscribe.formtools import plain_form
from countscribe.lean import is_lean, spots_in
from countscribe.piecetools import fixed_piece
from countscribe.places import frame_of
from countscribe.texts import need_text
from countscribe.wordtools import root_sizes


def how_many_lean(text):
    """How many lean writers a text has."""
    need_text(text)
    return ways_of(lean_steps(text))[0][0][0]


def lean_by_number(text, number):
    """The lean writer ahead of which just so many of them stand in order."""
    need_text(text)
    steps = lean_steps(text)
    ways = ways_of(steps)
    need_within(number, 0, ways[0][0][0] - 1)
    pieces = []
    row = low = 0
    while row < len(steps) - 1 or low < len(steps[row]) - 1:
        for step in steps_behind(steps[row][low], pieces):
            many = ways_behind(ways, step)
            if number < many:
                piece, row, low = step
                break
            number -= many
        pieces.append(piece)
    return pieces


def number_of_lean(text, value):
    """How many lean writers stand ahead of a lean writer of a text in order, None for any other value."""
    need_text(text)
    if not is_lean(text, value):
        return None
    steps = lean_steps(text)
    ways = ways_of(steps)
    number = row = low = 0
    for at, piece in enumerate(value):
        for step in steps_behind(steps[row][low], value[:at]):
            if step[0] == piece:
                row, low = step[1:]
                break
            number += ways_behind(ways, step)
    return number


def lean_steps(text):
    """For each row and each place the steps from there, in the order of their pieces."""
    frame = frame_of(text)
    found = []
    for row, spot in enumerate(spots_in(frame) + [None]):
        steps = []
        for low in range(len(frame.bare) + 1):
            own = [(piece, row, high) for piece, high in plain_pieces(frame.bare, low, frame.unknowns)]
            if spot is not None:
                own.extend([(piece, row + 1, high) for piece, high in power_pieces(spot, low)])
            steps.append(sorted(own))
        found.append(steps)
    return found


def plain_pieces(bare, low, many):
    """The pieces in which no unknown stands that can stand at a place, each with the place behind it."""
    rest = bare[low:]
    found = []
    for size, root in enumerate(root_sizes(rest), start=1):
        for part in range(root, size + 1, root):
            if size % part == 0:
                found.append(((rest[:part], plain_form(size // part, many)), low + size))
    return found


def is_single(piece):
    """Whether a piece writes its word once at every point."""
    return piece == fixed_piece(piece[0], len(piece[1]) - 1)


def steps_behind(steps, pieces):
    """Those of some steps that can be taken behind some pieces, as no two single ones may stand side by side."""
    if not pieces or not is_single(pieces[-1]):
        return steps
    return [step for step in steps if not is_single(step[0])]


def ways_of(steps):
    """For each row and each place how many ways lead to the end: all of them, and those behind a single piece."""
    ways = [[None] * len(row) for row in steps]
    ways[-1][-1] = (1, 1)
    for row in range(len(steps) - 1, -1, -1):
        for low in range(len(steps[row]) - 1, -1, -1):
            if ways[row][low] is None:
                own = steps[row][low]
                behind_single = [ways_behind(ways, step) for step in own if not is_single(step[0])]
                ways[row][low] = (sum([ways_behind(ways, step) for step in own]), sum(behind_single))
    return ways


def ways_behind(ways, step):
    """How many ways lead to the end behind a step."""
    piece, row, high = step
    return ways[row][high][1 if is_single(piece) else 0]
