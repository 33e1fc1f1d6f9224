"""All texts of some small kind, found plainly: piece by piece, with every list that is normal."""

from itertools import product

from countscribe.pieces import is_normal
from countscribe.texts import OpenText
from helper import small_words


def lists_from(many, steps_for):
    """All normal lists whose pieces are taken from what can be put behind a list of pieces."""
    rows = [[]]
    for row in rows:
        rows.extend([row + [piece] for piece in steps_for(row) if is_normal(many, row[-1:] + [piece])])
    return rows


def texts_of_size(many, size, spread, letters):
    """All texts of some letters whose size and spread do not pass two bounds."""
    words = [word for word in small_words(letters, size) if word]
    forms = [(1,) + (0,) * many] + [(0,) + form for form in product(range(spread), repeat=many) if any(form)]

    def steps_for(row):
        left = size - sum([len(word) for word, _ in row])
        return [(word, form) for word in words if len(word) <= left for form in forms]

    return [OpenText(many, row) for row in lists_from(many, steps_for)]


def plain_weight(pieces):
    """The weight of a normal list, as [72] has it."""
    total = 0
    for word, form in pieces:
        total += len(word)
        if form[0] == 0:
            total += sum([len(bin(number)) - 2 for number in form if number])
    return total


def forms_of_digits(many, most):
    """All forms of powers whose numbers have so many binary digits together at most."""
    rows = [()]
    for _ in range(many):
        rows = [row + (number,) for row in rows for number in range(2 ** most)]
    rows = [(0,) + row for row in rows if any(row)]
    return [form for form in rows if sum([len(bin(number)) - 2 for number in form if number]) <= most]


def texts_of_weight(many, weight, letters):
    """All texts of some letters that have at most a weight, in the order of the row of [73]."""
    words = [word for word in small_words(letters, weight) if word]
    pieces = [(word, (1,) + (0,) * many) for word in words]
    pieces.extend([(word, form) for word in words for form in forms_of_digits(many, weight - 1)])
    rooms = [[] for _ in range(weight + 1)]
    for piece in pieces:
        for left in range(plain_weight([piece]), weight + 1):
            rooms[left].append(piece)

    def steps_for(row):
        return rooms[weight - plain_weight(row)]

    rows = sorted([(plain_weight(row), row) for row in lists_from(many, steps_for)])
    return [OpenText(many, row) for _, row in rows]
