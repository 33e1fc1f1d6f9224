"""What the tests share: values of every kind, checks of errors, and the examples of the document."""

import ast
import random
from itertools import product

from countscribe import errors
from countscribe.costs import Prices
from countscribe.desks import Desk
from countscribe.kept import KeptWord
from countscribe.lines import Line
from countscribe.patches import Patch
from countscribe.pieces import normal
from countscribe.texts import OpenText

# No call may take any of these for a word, a list, a form, an object of another class and so on, unless it is one.
FAR = 10 ** 30


def strange_values():
    """Values of every kind; each test leaves out those that its argument may have."""
    return [
        None, True, False, -1, 0, 1, 7, -10 ** 39, 10 ** 39, 10 ** 44,
        "", "a", "abc", "A", "aB", "a b", "a1", "1", " ", "a\n", "\x00", "a" * 20001,
        [], [0], [1], [0, 0], [True], [None], ["a"], [""], [[]], [()], [("a", 1)], [("a", (1,))], [-1],
        (), (0,), (1,), (0, 0), (0, 1), (1, 0, 0), (0, 1, 2, 3), (0, 1, 2, 3, 4), (True,), (0, True), (-1, 0), (None,),
        ("a",), ("a", 1), ("a", (1,)), ("a", "a"), ((), ()), ([], []),
        {}, {"a": "b"}, {"a": 1}, {1: "a"}, {"": ""}, {(0, 1): []},
        ([1], 3, 2), ([], None, 1), ([], 1, 0), ([], None, 0), ([True], 1, 0), ([], ["a", "a"]), (["a"], ["a"]), ([], ["a"]), ([], [None]),
        ([], [], []), ([], [5], []), ([0], [1], [0]), ([1], [4, 5], [1]), ([10 ** 30], [1], [0]), ([0, 0], [1], [0, 0]), [[0]],
        Line([], []), Line([1], [2]), Line([0, 0], [1, 1]), Prices(), Prices(letter=7, sign=0), (1, 1, 1, 1), (1, [], []), (0, [], [0]),
        KeptWord([]), KeptWord([("ab", FAR)]), OpenText(0, []), OpenText(1, [("ab", (1, FAR))]), errors.InvalidWord("a"), errors.NothingToUndo(),
        Patch(OpenText(1, []), []), Patch(OpenText(0, [("a", (1,))]), [((0,), (1,), OpenText(0, []))]), Desk(OpenText(0, [])), ((0,), (0,), OpenText(0, [])), "0", "01", "n0", "a*n0",
        [([], "")], [([0], "a")], [([1], "a"), ([0], "")], [([0], "a" * 21)], [([0, 0], "ab")], [([1, 1, 1], "")], [([1], "a")] * 41,
    ]


def kind_of(value):
    """A value's kind, for messages."""
    text = repr(value)
    return text if len(text) < 80 else text[:80] + ".."


def told(test, name, field, call, *arguments, **named):
    """Check that a call raises just this error, with this very object as its field."""
    try:
        result = call(*arguments, **named)
    except errors.CountError as error:
        test.assertEqual(error.__class__.__name__, name, kind_of(arguments))
        test.assertEqual(error.args, (error.value,))
        if isinstance(field, int) and not isinstance(field, bool):
            test.assertEqual(error.value, field)
            test.assertNotIsInstance(error.value, bool)
        else:
            test.assertIs(error.value, field, kind_of(arguments))
        return
    test.fail("%s returned %s instead of raising %s" % (kind_of(arguments), kind_of(result), name))


def told_two(test, name, one, other, call, *arguments, **named):
    """Check that a call raises just this error, with these two things as its fields."""
    try:
        result = call(*arguments, **named)
    except errors.CountError as error:
        test.assertEqual(error.__class__.__name__, name, kind_of(arguments))
        test.assertEqual((error.one, error.other), (one, other), kind_of(arguments))
        return
    test.fail("%s returned %s instead of raising %s" % (kind_of(arguments), kind_of(result), name))


def refused(test, name, allowed, call):
    """Check that a call with one argument refuses every strange value that is not allowed."""
    for value in strange_values():
        if not allowed(value):
            told(test, name, value, call, value)


def answered_false(test, allowed, call):
    """Check that a call that tells something says False to every strange value that is not allowed."""
    for value in strange_values():
        if not allowed(value):
            test.assertIs(call(value), False, kind_of(value))


def is_number(value, low, high):
    """Whether a value is a whole number with these bounds."""
    return isinstance(value, int) and not isinstance(value, bool) and low <= value <= high


def run_example(test, text):
    """Run an example of the document: each expression must have the value in the comment below it."""
    names = {}
    lines = text.strip().split("\n")
    many = 0
    for at, line in enumerate(lines):
        if line.startswith("#") or not line.strip():
            continue
        behind = lines[at + 1] if at + 1 < len(lines) else ""
        if behind.startswith("#"):
            value = eval(compile(line, "example", "eval"), names)
            test.assertEqual(value, ast.literal_eval(behind[1:].strip()), line)
            test.assertEqual(repr(value), repr(ast.literal_eval(behind[1:].strip())), line)
            many += 1
        else:
            exec(compile(line, "example", "exec"), names)
    test.assertGreater(many, 0)


def small_words(letters, most):
    """All words of some letters up to a length."""
    found = [""]
    for word in found:
        if len(word) < most:
            found.extend([word + letter for letter in letters])
    return found


def chances(number):
    """A source of numbers that gives the same ones each time."""
    return random.Random(number)


def some_word(chance, letters, low, high):
    """A word of some letters, of a length between two bounds."""
    return "".join([chance.choice(letters) for _ in range(chance.randint(low, high))])


def some_pieces(chance, many, most, letters="ab"):
    """A list of pieces with small words and numbers."""
    found = []
    for _ in range(chance.randint(0, most)):
        form = tuple([chance.choice([0, 0, 0, 1, 2]) for _ in range(many + 1)])
        found.append((some_word(chance, letters, 0, chance.choice([1, 2, 4])), form))
    return found


def some_text(chance, many, most, letters="ab"):
    """An open text with small words and numbers."""
    return OpenText(many, some_pieces(chance, many, most, letters))


def word_at(pieces, point):
    """What a list of pieces writes at a point."""
    return "".join([word * value_at(form, point) for word, form in pieces])


def value_at(form, point):
    """The value of a form at a point."""
    return form[0] + sum([number * count for number, count in zip(form[1:], point)])


def all_points(many, most):
    """All points whose counts are at most a number."""
    return [list(point) for point in product(range(most + 1), repeat=many)]


def length_of(pieces, many):
    """The length of what a list of pieces writes, as a form."""
    return tuple([sum([len(word) * form[k] for word, form in pieces]) for k in range(many + 1)])


def texts_within(many, most, letters):
    """All open texts whose length is at most a form, by their length."""
    found = {}
    rows = [[]]
    one = (1,) + (0,) * many
    seen = {repr([])}
    for row in rows:
        own = length_of(row, many)
        found.setdefault(own, []).append(OpenText(many, row))
        rest = [top - number for top, number in zip(most, own)]
        steps = [(letter, one) for letter in letters] if rest[0] else []
        for word in small_words(letters, max(rest[1:], default=0)):
            if word:
                for form in product(*[range(number // len(word) + 1) for number in rest[1:]]):
                    steps.append((word, (0,) + form))
        for step in steps:
            made = normal(many, row + [step])
            if repr(made) not in seen:
                seen.add(repr(made))
                rows.append(made)
    return found
