"""[75]: the simplest text that fits examples."""

import unittest

from countscribe.examples import fits, simplest
from countscribe.texts import OpenText
from helper import FAR, chances, is_number, refused, run_example, some_text, some_word, strange_values, told, word_at
from plainfits import some_examples
from plaintexts import plain_weight, texts_of_weight

EXAMPLE = """
from countscribe.examples import fits, simplest
[simplest(1, [([1], "ab"), ([2], "abab")], 9).pieces(), simplest(1, [([0], "b"), ([1], "bab")], 9).pieces(), simplest(1, [([1], "aa")], 9).pieces()]
# [[('ab', (0, 1))], [('ba', (0, 1)), ('b', (1, 0))], [('aa', (1, 0))]]
[simplest(1, [([1], "ab"), ([2], "abab")], 2), simplest(1, [([1], "a"), ([1], "b")], 9), simplest(1, [([0], "a"), ([1], "")], 9)]
# [None, None, None]
found = simplest(2, [([1, 0], "ab"), ([0, 1], "ac"), ([1, 1], "abc")], 12)
[found.pieces(), fits(found, [([2, 2], "abbcc")])]
# [[('a', (1, 0, 0)), ('b', (0, 1, 0)), ('c', (0, 0, 1))], True]
"""


def are_examples(many, value):
    """Whether a value is examples, as [75] has it."""
    if not isinstance(value, list) or not 1 <= len(value) <= 40:
        return False
    for item in value:
        if not isinstance(item, tuple) or len(item) != 2 or not isinstance(item[0], list) or len(item[0]) != many:
            return False
        if not all([is_number(count, 0, 10 ** 99) for count in item[0]]):
            return False
        if not isinstance(item[1], str) or len(item[1]) > 20 or not all(["a" <= letter <= "z" for letter in item[1]]):
            return False
    return True


class ExampleTest(unittest.TestCase):
    def test_example(self):
        run_example(self, EXAMPLE)


class FitsTest(unittest.TestCase):
    def test_against_the_words(self):
        chance = chances(290)
        counts = {True: 0, False: 0}
        for _ in range(1500):
            many = chance.randint(0, 3)
            text = some_text(chance, many, 3)
            examples = []
            for _ in range(chance.randint(1, 3)):
                point = [chance.randint(0, 2) for _ in range(many)]
                word = word_at(text.pieces(), point) if chance.random() < 0.8 else some_word(chance, "ab", 0, 4)
                if len(word) <= 20:
                    examples.append((point, word))
            if examples:
                right = all([word_at(text.pieces(), point) == word for point, word in examples])
                self.assertIs(fits(text, examples), right)
                counts[right] += 1
        self.assertGreater(min(counts.values()), 300)

    def test_edges(self):
        text = OpenText(1, [("ab", (0, FAR))])
        self.assertEqual([fits(text, [([FAR], "")]), fits(text, [([0], "")]), fits(text, [([1], "ab" * 10)]), fits(OpenText(1, [("ab", (10, 0))]), [([FAR], "ab" * 10)] * 40)], [False, True, False, True])
        self.assertEqual([fits(OpenText(0, []), [([], "")]), fits(OpenText(0, []), [([], "a")]), fits(OpenText(1, [("ab", (0, 1))]), [([1], "ba")])], [True, False, False])
        self.assertEqual([fits(OpenText(1, [("a", (0, 1))]), [([2], "aa"), ([2], "ab")]), fits(OpenText(1, [("a", (0, 1))]), [([2], "aa"), ([2], "aa")])], [False, True])


class SimplestTest(unittest.TestCase):
    def test_against_all_texts_of_small_weights(self):
        chance = chances(291)
        counts = {True: 0, False: 0}
        for many, most, letters, tries in [(0, 6, "ab", 60), (1, 6, "ab", 150), (2, 5, "ab", 120), (3, 4, "ab", 80), (1, 4, "abc", 60)]:
            texts = texts_of_weight(many, most, letters)
            for _ in range(tries):
                examples = some_examples(chance, many, 6, letters)
                right = next((text for text in texts if all([word_at(text.pieces(), point) == word for point, word in examples])), None)
                found = simplest(many, examples, most)
                self.assertEqual(None if found is None else found.pieces(), None if right is None else right.pieces(), examples)
                counts[found is None] += 1
                any_weight = simplest(many, examples, 10 ** 30)
                if any_weight is not None:
                    own = plain_weight(any_weight.pieces())
                    self.assertTrue(fits(any_weight, examples))
                    self.assertEqual(simplest(many, examples, own), any_weight)
                    if own:
                        self.assertIsNone(simplest(many, examples, own - 1))
                    self.assertIs(found is None, own > most)
                else:
                    self.assertIsNone(found)
        self.assertGreater(min(counts.values()), 80)

    def test_no_simpler_one_is_found_by_leaving_out(self):
        """In the simplest text each power writes a letter at the point of some example."""
        chance = chances(292)
        for _ in range(300):
            many = chance.randint(1, 3)
            examples = some_examples(chance, many, 5)
            found = simplest(many, examples, 99)
            if found is not None:
                self.assertTrue(fits(found, examples))
                for word, form in found.pieces():
                    self.assertTrue(any([word_at([(word, form)], point) for point, _ in examples]))

    def test_words_of_20_letters(self):
        for word in ["a" * 20, "ab" * 10, "abaababaabaababaabab", "abcdefghijklmnopqrst"]:
            self.assertEqual(simplest(0, [([], word)], 20).pieces(), [(word, (1,))])
            self.assertEqual(simplest(1, [([1], word)] * 40, 20), simplest(1, [([1], word)], 20))
            self.assertTrue(fits(simplest(1, [([1], word)], 20), [([1], word)]))
        self.assertEqual(simplest(1, [([1], "a" * 20)], 9).pieces(), [("a", (0, 20))])
        self.assertEqual(simplest(1, [([10], "ab" * 10)], 3).pieces(), [("ab", (0, 1))])
        self.assertIsNone(simplest(1, [([1], "abcdefghijklmnopqrst")], 19))
        examples = [([k], "ab" * k + "c") for k in range(10)]
        self.assertEqual(simplest(1, examples * 4, 99).pieces(), [("ab", (0, 1)), ("c", (1, 0))])
        self.assertIsNone(simplest(1, examples + examples * 2 + [([9], "ab" * 9 + "d")], 99))

    def test_12_letters_for_two_unknowns_and_three(self):
        self.assertEqual(simplest(2, [([1, 0], "a" * 12), ([0, 1], "a" * 12)], 99).pieces(), [("a", (0, 12, 12))])
        self.assertEqual(simplest(2, [([1, 0], "ab" * 6), ([0, 1], "ba" * 6)], 99).pieces(), [("ab", (0, 6, 0)), ("ba", (0, 0, 6))])
        self.assertEqual(simplest(2, [([2, 0], "aabaab"), ([0, 3], "abcabcabc"), ([2, 3], "aabaababcabcabc"[:12])], 99), None)
        self.assertEqual(simplest(3, [([1, 1, 1], "a" * 12), ([1, 0, 0], "a" * 4), ([0, 1, 0], "a" * 5), ([0, 0, 1], "a" * 5)], 99).pieces(), [("a", (0, 3, 4, 4)), ("a", (1, 0, 0, 0))])
        self.assertEqual(simplest(3, [([1, 0, 0], "ab" * 2), ([0, 1, 0], "b" * 5), ([0, 0, 1], "c" * 3), ([0, 0, 0], "")], 99).pieces(), [("ab", (0, 2, 0, 0)), ("b", (0, 0, 5, 0)), ("c", (0, 0, 0, 3))])
        examples = [([i % 3, i % 4], "a" * (1 + 2 * (i % 3) + 2 * (i % 4))) for i in range(40)]
        self.assertEqual(simplest(2, examples, 99).pieces(), [("a", (0, 2, 2)), ("a", (1, 0, 0))])
        self.assertEqual(simplest(3, [([1, 1, 1], "abcabcabcabc")] * 40, 99).pieces(), [("abc", (0, 0, 0, 4))])

    def test_not_full(self):
        self.assertEqual([simplest(3, [([0, 0, 0], "ab")], 2).pieces(), simplest(1, [([0], "")], 0).pieces(), simplest(2, [([0, 2], "aaaa")], 9).pieces()], [[("ab", (1, 0, 0, 0))], [], [("a", (0, 0, 2))]])
        self.assertEqual(simplest(2, [([FAR, 0], "ab"), ([0, FAR], "ab")], 9).pieces(), [("ab", (1, 0, 0))])
        self.assertIsNone(simplest(1, [([10 ** 29], "ab"), ([0], "")], 9))
        self.assertEqual(simplest(2, [([10 ** 29, 1], "ab"), ([0, 0], "")], 9).pieces(), [("ab", (0, 0, 1))])

    def test_ties_and_weights(self):
        self.assertEqual([simplest(1, [([1], "ab")], most) is None for most in [0, 1, 2, FAR]], [True, True, False, False])
        self.assertEqual(simplest(1, [([1], "aaa")], 9).pieces(), [("a", (0, 3))])
        self.assertEqual([simplest(1, [([1], "")], 0).pieces(), simplest(0, [([], "")], 0).pieces()], [[], []])


class WrongInputsTest(unittest.TestCase):
    def test_all(self):
        refused(self, "InvalidText", lambda value: isinstance(value, OpenText), lambda value: fits(value, None))
        refused(self, "InvalidNumber", lambda value: is_number(value, 0, 3), lambda value: simplest(value, None, None))
        good = {0: [([], "")], 1: [([1], "a")], 2: [([1, 0], "")], 3: [([1, 1, 1], "")]}
        for many in range(4):
            text = OpenText(many, [])
            refused(self, "InvalidExamples", lambda value: are_examples(many, value), lambda value: fits(text, value))
            refused(self, "InvalidExamples", lambda value: are_examples(many, value), lambda value: simplest(many, value, None))
            refused(self, "InvalidNumber", lambda value: is_number(value, 0, 10 ** 99), lambda value: simplest(many, good[many], value))
            for item in strange_values():
                if not are_examples(many, [item]):
                    value = good[many] + [item]
                    told(self, "InvalidExamples", value, fits, text, value)
                    told(self, "InvalidExamples", value, simplest, many, value, -1)
        for value in [[([0], "a" * 21)], [([0], "a")] * 41, [], [([0], "a"), ([0], "A")], [([0], "a"), [[0], "a"]], [((0,), "a")], [([0], "a", 1)], [([-1], "a")], [([True], "a")], [([0, 0], "a")]]:
            told(self, "InvalidExamples", value, simplest, 1, value, 9)
            told(self, "InvalidExamples", value, fits, OpenText(1, []), value)
        self.assertTrue(fits(OpenText(1, [("a", (1, 0))]), [([0], "a")] * 40))

    def test_by_names_and_lists_stay(self):
        examples = [([1], "ab"), ([2], "abab")]
        for _ in range(2):
            found = simplest(many=1, examples=examples, most=9)
            self.assertEqual([found.pieces(), fits(text=found, examples=examples), examples], [[("ab", (0, 1))], True, [([1], "ab"), ([2], "abab")]])


if __name__ == "__main__":
    unittest.main()
