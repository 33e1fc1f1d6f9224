"""[53]: the lean writers of a text by their numbers."""

import unittest

from countscribe.lean import is_lean
from countscribe.leancounts import how_many_lean, lean_by_number, number_of_lean
from countscribe.texts import OpenText
from helper import FAR, chances, is_number, refused, run_example, strange_values, told
from plainways import all_lean, all_lists, by_text, is_plain_lean, long_texts, small_texts

EXAMPLE = """
from countscribe.leancounts import how_many_lean, lean_by_number, number_of_lean
from countscribe.texts import OpenText
small = OpenText(1, [("a", (1, 1))])
[how_many_lean(small), lean_by_number(small, 1), number_of_lean(small, [("a", (1, 1))])]
# [3, [('a', (1, 0)), ('a', (0, 1))], 2]
"""


class ExampleTest(unittest.TestCase):
    def test_example(self):
        run_example(self, EXAMPLE)


class PlainCheckTest(unittest.TestCase):
    def check(self, text, writers):
        """Just these are the lean writers of the text, in ascending order."""
        ordered = sorted(writers)
        self.assertEqual(how_many_lean(text), len(ordered), text.pieces())
        self.assertEqual([lean_by_number(text, number) for number in range(len(ordered))], ordered)
        self.assertEqual([number_of_lean(text, writer) for writer in ordered], list(range(len(ordered))))
        told(self, "InvalidNumber", len(ordered), lean_by_number, text, len(ordered))

    def test_all_places_and_copies(self):
        for text in small_texts(chances(180), 90, 4):
            self.check(text, all_lean(text))

    def test_all_writers_of_small_texts(self):
        """Of all lists of pieces with numbers that suffice for all lean writers, those that are lean."""
        for many, letters, constants, numbers, signs in [(1, 3, 3, 2, "ab"), (2, 3, 3, 1, "ab"), (0, 4, 4, 0, "ab")]:
            for rows in by_text(many, all_lists(many, letters, constants, numbers, signs)).values():
                text = OpenText(many, rows[0])
                size = sum([len(word) for word, _ in text.pieces()])
                if size <= letters and max([number for _, form in text.pieces() for number in form], default=0) <= max(numbers, 1):
                    self.check(text, [row for row in rows if is_plain_lean(many, text, row)])

    def test_writers_that_are_not_lean_have_no_number(self):
        others = 0
        for rows in by_text(1, all_lists(1, 3, 2, 1, "ab")).values():
            text = OpenText(1, rows[0])
            for row in rows:
                self.assertIs(number_of_lean(text, row) is not None, is_plain_lean(1, text, row))
                others += not is_plain_lean(1, text, row)
        self.assertGreater(others, 100)


class EdgesTest(unittest.TestCase):
    def test_the_empty_text_and_texts_without_a_power(self):
        for many in range(4):
            empty, word = OpenText(many, []), OpenText(many, [("ab", (1,) + (0,) * many)])
            self.assertEqual([how_many_lean(empty), lean_by_number(empty, 0), number_of_lean(empty, [])], [1, [], 0])
            told(self, "InvalidNumber", 1, lean_by_number, empty, 1)
            self.assertEqual([how_many_lean(word), lean_by_number(word, 0)], [1, [("ab", (1,) + (0,) * many)]])
        self.assertEqual([how_many_lean(OpenText(0, [("a" * 3, (1,))])), how_many_lean(OpenText(0, [("a" * 4, (1,))]))], [4, 9])
        self.assertEqual(lean_by_number(OpenText(0, [("aa", (1,))]), 0), [("a", (2,))])

    def test_powers_alone(self):
        text = OpenText(3, [("ab", (0, 1, 0, FAR)), ("c", (0, 0, 10 ** 18, 2))])
        self.assertEqual([how_many_lean(text), lean_by_number(text, 0), number_of_lean(text, text.pieces())], [1, text.pieces(), 0])

    def test_far_numbers(self):
        for number in [10 ** 18, 10 ** 28, 10 ** 44]:
            text = OpenText(2, [("ab", (2, 0, number)), ("a", (1, number, 1))])
            found = [lean_by_number(text, at) for at in range(how_many_lean(text))]
            self.assertEqual(found, sorted(found))
            self.assertEqual(len({repr(writer) for writer in found}), len(found))
            for at, writer in enumerate(found):
                self.assertIs(is_lean(text, writer), True)
                self.assertEqual(number_of_lean(text, writer), at)

    def test_very_many(self):
        chance = chances(181)
        texts = long_texts(40) + [OpenText(0, [("a" * 40, (1,))]), OpenText(1, [("a" * 40, (1, 1))]), OpenText(1, [("ab" * 20, (1, FAR))])]
        texts.append(OpenText(1, [piece for _ in range(6) for piece in [("a", (0, 1)), ("aaaaab", (1, 0)), ("b", (0, 1)), ("a", (1, 0))]][:24]))
        most = 0
        for text in texts:
            many = how_many_lean(text)
            most = max(most, many)
            for number in [0, many - 1, many // 2] + [chance.randrange(many) for _ in range(2)]:
                writer = lean_by_number(text, number)
                self.assertIs(is_lean(text, writer), True)
                self.assertEqual(number_of_lean(text, writer), number)
            for number in [many, many + 1, 10 ** 50, -1]:
                told(self, "InvalidNumber", number, lean_by_number, text, number)
            if many > 1:
                self.assertLess(lean_by_number(text, 0), lean_by_number(text, 1))
                self.assertLess(lean_by_number(text, many - 2), lean_by_number(text, many - 1))
        self.assertGreater(most, 10 ** 16)


class WrongInputsTest(unittest.TestCase):
    def test_texts(self):
        for call in [how_many_lean, lambda value: lean_by_number(value, 0), lambda value: number_of_lean(value, [])]:
            refused(self, "InvalidText", lambda value: isinstance(value, OpenText), call)

    def test_numbers(self):
        text = OpenText(1, [("a", (1, 1))])
        refused(self, "InvalidNumber", lambda value: is_number(value, 0, 2), lambda value: lean_by_number(text, value))
        told(self, "InvalidText", None, lean_by_number, None, None)
        told(self, "InvalidText", None, number_of_lean, None, None)

    def test_any_other_value_has_no_number(self):
        for text in [OpenText(1, [("ab", (0, 1))]), OpenText(0, [("b", (1,))])]:
            for value in strange_values():
                self.assertIsNone(number_of_lean(text, value))
                self.assertIsNone(number_of_lean(text, [value]))
        text = OpenText(1, [("a", (1, 1))])
        self.assertIsNone(number_of_lean(text, [("a", (True, 1))]))
        self.assertIsNone(number_of_lean(text, (("a", (1, 1)),)))

    def test_by_names_and_lists_stay(self):
        text = OpenText(1, [("a", (1, 1))])
        value = lean_by_number(text=text, number=2)
        self.assertEqual([how_many_lean(text=text), number_of_lean(text=text, value=value), value], [3, 2, [("a", (1, 1))]])
        value.append(1)
        self.assertEqual([lean_by_number(text, 2), number_of_lean(text, value), text.pieces()], [[("a", (1, 1))], None, [("a", (0, 1)), ("a", (1, 0))]])


if __name__ == "__main__":
    unittest.main()
