"""The simplest open text that fits examples: words that are written at some points."""

from countscribe.checks import is_counts, is_lettered, need_count, need_many
from countscribe.errors import InvalidExamples
from countscribe.fitways import all_steps, allowed_behind, first_place, last_place, told_backwards
from countscribe.formtools import form_value
from countscribe.rows import weight_of
from countscribe.texts import OpenText, length, need_text, word_at

MOST_EXAMPLES = 40
MOST_EXAMPLE_LETTERS = 20


def is_example(many, value):
    """Whether a value is a tuple of a point for so many unknowns and of a short word."""
    if not isinstance(value, tuple) or len(value) != 2:
        return False
    return is_counts(value[0], many) and is_lettered(value[1], MOST_EXAMPLE_LETTERS)


def need_examples(many, value):
    """Refuse what are no examples for so many unknowns."""
    if not isinstance(value, list) or not 1 <= len(value) <= MOST_EXAMPLES:
        raise InvalidExamples(value)
    if not all([is_example(many, item) for item in value]):
        raise InvalidExamples(value)


def fits(text, examples):
    """Whether a text writes at the point of each example its word."""
    need_text(text)
    need_examples(text.many(), examples)
    total = length(text)
    # What is written may be much too long to be written out.
    if any([form_value(total, point) != len(word) for point, word in examples]):
        return False
    return all([word_at(text, point) == word for point, word in examples])


def simplest(many, examples, most):
    """The first text in the row of all that fits and has at most a weight, None if there is none."""
    need_many(many)
    need_examples(many, examples)
    need_count(most)
    told = told_backwards(all_steps(many, examples), last_place(examples), (0, []), None, best_way)
    best = lightest(allowed_behind(told[first_place(examples)], None))
    return None if best is None or best[0] > most else OpenText(many, best[1])


def best_way(told, steps):
    """The weight and the pieces of the best way that begins with one of some steps, None if none leads to the end."""
    found = []
    for piece, place in steps:
        rest = lightest(allowed_behind(told[place], piece))
        if rest is not None:
            found.append((weight_of([piece]) + rest[0], [piece] + rest[1]))
    return lightest(found)


def lightest(ways):
    """The one of some ways that is the first in the row, where None is no way; None if there is none."""
    return min([way for way in ways if way is not None], default=None)
