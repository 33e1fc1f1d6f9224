"""Texts that fit examples, found plainly: piece by piece, as long as what is written begins each word."""

from itertools import product

from countscribe.texts import OpenText
from helper import value_at, word_at
from plaintexts import lists_from, plain_weight


def begins_all(pieces, examples):
    """Whether what a list of pieces writes at the point of each example begins its word."""
    for point, word in examples:
        if sum([len(own) * value_at(form, point) for own, form in pieces]) > len(word):
            return False
        if not word.startswith(word_at(pieces, point)):
            return False
    return True


def all_fitting(many, examples):
    """All texts that fit full examples, in the order of the row of [73]."""
    most = [min([len(word) // point[at] for point, word in examples if point[at]]) for at in range(many)]
    forms = [(1,) + (0,) * many] + [(0,) + form for form in product(*[range(top + 1) for top in most]) if any(form)]

    def steps_for(row):
        words = {}
        for point, word in examples:
            rest = word[len(word_at(row, point)):]
            words.update({rest[:size]: True for size in range(1, len(rest) + 1)})
        return [(word, form) for word in sorted(words) for form in forms if begins_all(row + [(word, form)], examples)]

    rows = [row for row in lists_from(many, steps_for) if all([word_at(row, point) == word for point, word in examples])]
    return [OpenText(many, row) for row in sorted(rows, key=lambda row: (plain_weight(row), row))]


def some_examples(chance, many, most, letters="ab"):
    """Examples of short words: those of a text, or any ones."""
    found = []
    pieces = []
    for _ in range(chance.randint(1, 4)):
        form = tuple([chance.choice([0, 0, 1, 1, 2]) for _ in range(many + 1)])
        pieces.append(("".join([chance.choice(letters) for _ in range(chance.choice([1, 1, 2]))]), form))
    for _ in range(chance.randint(1, 4)):
        point = [chance.choice([0, 1, 1, 2]) for _ in range(many)]
        word = word_at(pieces, point)
        if chance.random() < 0.12:
            word = "".join([chance.choice(letters) for _ in range(chance.randint(0, most))])
        if len(word) <= most:
            found.append((point, word))
    return found or [([1] * many, "ab")]


def is_full(many, examples):
    return all([any([point[at] for point, _ in examples]) for at in range(many)])
