"""[74]: open texts as bits, one behind the other."""

import unittest

from countscribe.bits import bits_of, read_bits
from countscribe.numbering import how_many, number_of, numbered
from countscribe.texts import OpenText
from helper import chances, is_number, refused, run_example, strange_values, told

EXAMPLE = """
from countscribe.bits import bits_of, read_bits
from countscribe.numbering import how_many, number_of, numbered, weight
[bits_of(numbered(1, number)) for number in [0, 1, 2, 27]]
# ['0', '100', '101', '111101100']
texts, rest = read_bits(1, "0" + "100" + "111101100" + "1101")
[[text.pieces() for text in texts], rest]
# [[[], [('a', (1, 0))], [('a', (0, 1))]], '1101']
"""


def plain_bits(number):
    digits = bin(number + 1)[3:]
    return "1" * len(digits) + "0" + digits


def row_of(many, numbers):
    return "".join([plain_bits(number) for number in numbers])


class ExampleTest(unittest.TestCase):
    def test_example(self):
        run_example(self, EXAMPLE)


class BitsTest(unittest.TestCase):
    def test_all_small_numbers(self):
        for many in range(4):
            known = {}
            for number in range(600):
                text = numbered(many, number)
                bits = bits_of(text)
                self.assertEqual(bits, plain_bits(number))
                self.assertEqual(read_bits(many, bits), ([text], ""))
                self.assertNotIn(bits, known)
                known[bits] = True
            # No bits begin others.
            self.assertFalse([bits for bits in known for size in range(1, len(bits)) if bits[:size] in known])

    def test_rows(self):
        chance = chances(280)
        for _ in range(150):
            many = chance.randint(0, 3)
            numbers = [chance.choice([0, 1, chance.randrange(40), chance.randrange(10 ** 6), chance.randrange(10 ** 40)]) for _ in range(chance.randint(0, 8))]
            bits = row_of(many, numbers)
            texts = [numbered(many, number) for number in numbers]
            self.assertEqual(read_bits(many, bits), (texts, ""))
            # A row that ends within a text.
            more = plain_bits(chance.randrange(1, 10 ** 9))
            rest = more[:chance.randrange(len(more))]
            self.assertEqual(read_bits(many, bits + rest), (texts, rest))

    def test_each_short_row_is_read_in_one_way(self):
        for size in range(11):
            for number in range(2 ** size):
                bits = bin(2 ** size + number)[3:]
                texts, rest = read_bits(1, bits)
                self.assertEqual("".join([bits_of(text) for text in texts]) + rest, bits)
                ones = len(rest) - len(rest.lstrip("1"))
                self.assertTrue(ones == len(rest) or len(rest) < 2 * ones + 1)

    def test_edges(self):
        for many in range(4):
            self.assertEqual([read_bits(many, ""), read_bits(many, "1"), read_bits(many, "0"), read_bits(many, "10")], [([], ""), ([], "1"), ([OpenText(many, [])], ""), ([], "10")])
            self.assertEqual(bits_of(OpenText(many, [])), "0")

    def test_4000_signs(self):
        self.assertEqual([len(read_bits(1, "0" * 4000)[0]), read_bits(2, "1" * 4000)], [4000, ([], "1" * 4000)])
        texts, rest = read_bits(3, "100" * 1333 + "1")
        self.assertEqual([len(texts), texts[0].pieces(), rest], [1333, [("a", (1, 0, 0, 0))], "1"])
        last = sum([how_many(1, own) for own in range(61)]) - 1
        text = numbered(1, last)
        bits = bits_of(text)
        many = 4000 // len(bits)
        texts, rest = read_bits(1, bits * many + "1" * (4000 - many * len(bits)))
        self.assertEqual([texts, rest], [[text] * many, "1" * (4000 - many * len(bits))])
        chance = chances(281)
        row = ""
        while len(row) < 3600:
            row += plain_bits(chance.randrange(last))
        texts, rest = read_bits(1, row)
        self.assertEqual(["".join([bits_of(text) for text in texts]), rest], [row, ""])

    def test_numbers_that_are_not_let(self):
        for many in range(4):
            last = sum([how_many(many, own) for own in range(61)]) - 1
            bits = plain_bits(last + 1)
            told(self, "TooMany", last + 1, read_bits, many, bits)
            told(self, "TooMany", last + 1, read_bits, many, "0100" + bits + plain_bits(last + 5))
            self.assertEqual(len(read_bits(many, "0100" + plain_bits(last))[0]), 3)
            self.assertEqual(read_bits(many, "0" + bits[:-1]), ([OpenText(many, [])], bits[:-1]))
        told(self, "TooMany", 2 ** 1999 - 1, read_bits, 1, "1" * 1999 + "0" * 2000)

    def test_equal_texts_have_the_same_bits(self):
        one, other = OpenText(1, [("a", (1, 0)), ("ba", (0, 1))]), OpenText(1, [("ab", (0, 1)), ("a", (1, 0))])
        self.assertEqual([bits_of(one), read_bits(1, bits_of(one) * 2)], [bits_of(other), ([other] * 2, "")])


class WrongInputsTest(unittest.TestCase):
    def test_all(self):
        refused(self, "InvalidText", lambda value: isinstance(value, OpenText), bits_of)
        told(self, "TooLong", 61, bits_of, OpenText(0, [("a" * 61, (1,))]))
        refused(self, "InvalidNumber", lambda value: is_number(value, 0, 3), lambda value: read_bits(value, None))
        refused(self, "InvalidBits", lambda value: isinstance(value, str) and set(value) <= {"0", "1"}, lambda value: read_bits(1, value))
        for value in ["2", "01 ", "0b1", "O", "1" * 50 + "a", ["0"], ("0",), 0]:
            told(self, "InvalidBits", value, read_bits, 1, value)
        self.assertIn("01", strange_values())

    def test_by_names_and_lists_belong_to_the_caller(self):
        text = numbered(2, 1234)
        for _ in range(2):
            texts, rest = read_bits(many=2, bits=bits_of(text=text) + "1")
            self.assertEqual([texts, rest, number_of(text)], [[text], "1", 1234])
            texts.append(1)


if __name__ == "__main__":
    unittest.main()
