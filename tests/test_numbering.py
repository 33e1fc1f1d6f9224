"""[72], [73]: weights, and the row in which all open texts stand."""

import unittest

from countscribe.numbering import how_many, number_of, numbered, weight
from countscribe.pieces import is_normal
from countscribe.texts import OpenText
from helper import FAR, chances, is_number, refused, run_example, some_text, told
from plaintexts import lists_from, plain_weight, texts_of_weight

EXAMPLE = """
from countscribe.numbering import how_many, number_of, numbered, weight
from countscribe.texts import OpenText
[how_many(0, 2), how_many(1, 0), how_many(1, 1), how_many(1, 2), how_many(1, 3), how_many(2, 2)]
# [676, 1, 26, 702, 19604, 728]
[numbered(1, number).pieces() for number in [0, 1, 26, 27, 28, 54, 55]]
# [[], [('a', (1, 0))], [('z', (1, 0))], [('a', (0, 1))], [('aa', (1, 0))], [('b', (0, 1))], [('ba', (1, 0))]]
text = OpenText(2, [("b", (1, 0, 0)), ("ab", (0, 5, 1))])
[text.pieces(), weight(text), numbered(2, number_of(text)) == text]
# [[('ba', (0, 5, 1)), ('b', (1, 0, 0))], 7, True]
"""
LETTERS = "abcdefghijklmnopqrstuvwxyz"
TOTALS = {}


def total(many, most):
    """How many texts there are of all weights up to one."""
    if (many, most) not in TOTALS:
        TOTALS[many, most] = sum([how_many(many, own) for own in range(most + 1)])
    return TOTALS[many, most]


def row_key(text):
    return plain_weight(text.pieces()), text.pieces()


class ExampleTest(unittest.TestCase):
    def test_example(self):
        run_example(self, EXAMPLE)


class WeightTest(unittest.TestCase):
    def test_against_the_definition(self):
        chance = chances(270)
        for _ in range(500):
            many = chance.randint(0, 3)
            text = some_text(chance, many, 5)
            found = weight(text)
            digits = sum([len(bin(number)[2:]) for _, form in text.pieces() if form[0] == 0 for number in form if number])
            self.assertEqual(found, sum([len(word) for word, _ in text.pieces()]) + digits)

    def test_edges(self):
        for many in range(4):
            self.assertEqual([weight(OpenText(many, [])), weight(OpenText(many, [("abc", (1,) + (0,) * many)]))], [0, 3])
        self.assertEqual([weight(OpenText(1, [("a", (0, number))])) for number in [1, 2, 3, 4, 7, 8, 2 ** 99]], [2, 3, 3, 4, 4, 5, 101])
        self.assertEqual([weight(OpenText(3, [("ab", (1, 1, 0, 2)), ("c", (0, 0, 9, 0))])), weight(OpenText(1, [("a", (2000, 0))]))], [2 + 1 + 2 + 2 + 1 + 4, 2000])


class RowTest(unittest.TestCase):
    def test_all_texts_of_small_weights(self):
        """All texts of all letters, in order, have the numbers from 0 on."""
        for many, most in [(0, 3), (1, 3), (2, 2), (3, 2)]:
            texts = texts_of_weight(many, most, LETTERS)
            self.assertEqual([sum([plain_weight(text.pieces()) == own for text in texts]) for own in range(most + 1)], [how_many(many, own) for own in range(most + 1)])
            self.assertEqual(len(texts), total(many, most))
            step = 1 if len(texts) < 3000 else 7
            for number in range(0, len(texts), step):
                self.assertEqual(numbered(many, number), texts[number])
                self.assertEqual(number_of(texts[number]), number)

    def test_how_many_by_patterns(self):
        """Texts that differ only in which letters they have are counted together: the letters come in as a, b, c, .."""
        for many, most in [(0, 5), (1, 5), (2, 4), (3, 3)]:
            pieces = []
            for text in texts_of_weight(many, most, "ab"):
                pieces.extend([(len(word), form) for word, form in text.pieces()])
            shapes = sorted(set(pieces))
            counts = [0] * (most + 1)
            for row in lists_from(many, lambda row: self.next_pieces(row, shapes, most)):
                known = len(set("".join([word for word, _ in row])))
                ways = 1
                for own in range(known):
                    ways *= 26 - own
                counts[plain_weight(row)] += ways
            self.assertEqual(counts, [how_many(many, own) for own in range(most + 1)])

    def next_pieces(self, row, shapes, most):
        """The pieces that can come next, with new letters in the order of the alphabet."""
        known = len(set("".join([word for word, _ in row])))
        left = most - plain_weight(row)
        found = []
        for size, form in shapes:
            words = [("", known)]
            for _ in range(size):
                words = [(word + LETTERS[at], max(own, at + 1)) for word, own in words for at in range(own + 1)]
            found.extend([(word, form) for word, _ in words if plain_weight([(word, form)]) <= left])
        return found

    def test_texts_of_two_letters_in_order(self):
        for many, most in [(0, 6), (1, 6), (2, 5), (3, 4)]:
            texts = texts_of_weight(many, most, "ab")
            numbers = [number_of(text) for text in texts[::3]]
            self.assertEqual(numbers, sorted(set(numbers)))
            for text, number in list(zip(texts[::3], numbers))[::5]:
                self.assertEqual(numbered(many, number), text)
            texts = texts_of_weight(many, most - 2, "yz")
            numbers = [number_of(text) for text in texts]
            self.assertEqual(numbers, sorted(set(numbers)))

    def test_neighbours(self):
        """Each number up to the last one of weight 60 is that of one text, and the next number that of a later one."""
        chance = chances(271)
        for many in range(4):
            tops = [chance.randint(1, 60) for _ in range(12)] + [60]
            for top in tops:
                number = chance.randrange(total(many, top) - 1)
                text, later = numbered(many, number), numbered(many, number + 1)
                self.assertEqual([number_of(text), number_of(later)], [number, number + 1])
                self.assertLess(row_key(text), row_key(later))
                self.assertTrue(is_normal(many, text.pieces()) and weight(text) <= top)

    def test_neighbours_in_form_and_word(self):
        chance = chances(272)
        for _ in range(60):
            many = chance.randint(1, 3)
            word = chance.choice(["a", "ab", "zz", "y", "ba", "aab"])
            form = (0,) + tuple([chance.choice([0, 1, 2, 3, 4, 7, 8, 2 ** chance.randint(1, 9)]) for _ in range(many)])
            text = OpenText(many, [(chance.choice(["", "b", "zc"]), (1,) + (0,) * many), (word, form), (chance.choice(["", "a", "z", "ab"]), (1,) + (0,) * many), ("c", (0, 1) + (0,) * (many - 1))])
            number = number_of(text)
            around = [numbered(many, number + by) for by in range(-3, 4)]
            self.assertEqual([around[3], [number_of(own) for own in around]], [text, list(range(number - 3, number + 4))])
            self.assertEqual(around, sorted(around, key=row_key))

    def test_first_and_last_of_a_weight(self):
        for many in range(4):
            for own in [0, 1, 2, 3, 10, 59, 60]:
                low, high = total(many, own) - how_many(many, own), total(many, own) - 1
                first, last = numbered(many, low), numbered(many, high)
                self.assertEqual([weight(first), weight(last), number_of(first), number_of(last)], [own, own, low, high])
                self.assertEqual(last.pieces(), [("z" * own, (1,) + (0,) * many)] if own else [])
            behind = total(many, 60)
            told(self, "TooMany", behind, numbered, many, behind)
            told(self, "TooMany", 10 ** 400, numbered, many, 10 ** 400)
        self.assertEqual(numbered(1, total(1, 9)).pieces()[0], ("a", (0, 1)))

    def test_too_long(self):
        self.assertEqual(numbered(0, number_of(OpenText(0, [("ab" * 30, (1,))]))).pieces(), [("ab" * 30, (1,))])
        told(self, "TooLong", 61, number_of, OpenText(0, [("a" * 61, (1,))]))
        text = OpenText(1, [("a", (0, 2 ** 59 - 1))])
        self.assertEqual([weight(text), numbered(1, number_of(text))], [60, text])
        told(self, "TooLong", 61, number_of, OpenText(1, [("a", (0, 2 ** 59))]))
        told(self, "TooLong", weight(OpenText(2, [("a", (0, FAR, 0))])), number_of, OpenText(2, [("a", (0, FAR, 0))]))

    def test_equal_texts_have_one_number(self):
        one, other = OpenText(1, [("a", (1, 0)), ("ba", (0, 1))]), OpenText(1, [("ab", (0, 1)), ("a", (1, 0))])
        self.assertEqual(number_of(one), number_of(other))
        self.assertEqual([number_of(OpenText(many, [("", (1,) * (many + 1))])) for many in range(4)], [0] * 4)


class WrongInputsTest(unittest.TestCase):
    def test_all(self):
        for call in [weight, number_of]:
            refused(self, "InvalidText", lambda value: isinstance(value, OpenText), call)
        for call in [how_many, numbered]:
            refused(self, "InvalidNumber", lambda value: is_number(value, 0, 3), lambda value: call(value, None))
        refused(self, "InvalidNumber", lambda value: is_number(value, 0, 60), lambda value: how_many(1, value))
        refused(self, "InvalidNumber", lambda value: is_number(value, 0, 10 ** 99), lambda value: numbered(1, value))
        for value in [61, -1, 10 ** 20]:
            told(self, "InvalidNumber", value, how_many, 1, value)
        told(self, "InvalidNumber", 4, how_many, 4, 61)
        told(self, "InvalidNumber", 4, numbered, 4, 10 ** 200)

    def test_by_names_and_texts_stay(self):
        text = OpenText(1, [("ab", (1, 2))])
        number = number_of(text=text)
        self.assertEqual([weight(text=text), how_many(many=1, weight=1), numbered(many=1, number=number) == text], [6, 26, True])
        self.assertEqual([text.pieces(), number_of(text)], [[("ab", (0, 2)), ("ab", (1, 0))], number])


if __name__ == "__main__":
    unittest.main()
