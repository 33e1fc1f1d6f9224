"""[76], [77]: all texts that fit examples, and where to ask on."""

import unittest

from countscribe.examples import fits, simplest
from countscribe.learning import fitting, how_many_fit, next_point
from countscribe.texts import OpenText
from helper import FAR, all_points, chances, is_number, refused, run_example, some_text, told, word_at
from plainfits import all_fitting, is_full, some_examples
from plaintexts import plain_weight, texts_of_weight
from test_examples import are_examples

EXAMPLE = """
from countscribe.learning import fitting, how_many_fit, next_point
[text.pieces() for text in fitting(1, [([1], "ab")])][:3]
# [[('ab', (1, 0))], [('a', (0, 1)), ('b', (1, 0))], [('a', (1, 0)), ('b', (0, 1))]]
[how_many_fit(1, [([1], "ab")]), next_point(1, [([1], "ab")]), how_many_fit(1, [([1], "ab"), ([0], "")]), next_point(1, [([1], "ab"), ([0], "")])]
# [5, [0], 2, [2]]
[how_many_fit(1, [([2], "ababc")]), how_many_fit(1, [([2], "ababc"), ([0], "c")]), next_point(1, [([2], "ababc"), ([0], "c")])]
# [2, 1, None]
"""
FULL_200 = [([2, 1], "babbbbbbb")]
FULL_201 = [([1, 0], "bbbaabb"), ([0, 2], "aaababb")]


def row_key(text):
    return plain_weight(text.pieces()), text.pieces()


class ExampleTest(unittest.TestCase):
    def test_example(self):
        run_example(self, EXAMPLE)


class PlainCheckTest(unittest.TestCase):
    def first_parting(self, many, texts, most):
        """The least point, of those with counts up to a number, at which not all texts write the same."""
        for _, point in sorted([(sum(point), point) for point in all_points(many, most)]):
            if len({word_at(text.pieces(), point) for text in texts}) > 1:
                return point
        return None

    def test_all_that_fit(self):
        chance = chances(300)
        counts = {0: 0, 1: 0, 2: 0}
        for _ in range(350):
            many = chance.randint(0, 3)
            examples = some_examples(chance, many, [6, 6, 5, 4][many], chance.choice(["a", "ab", "abc"]))
            if not is_full(many, examples):
                told(self, "InvalidExamples", examples, how_many_fit, many, examples)
                continue
            texts = all_fitting(many, examples)
            self.assertEqual(how_many_fit(many, examples), len(texts), examples)
            if len(texts) > 200:
                told(self, "TooMany", len(texts), fitting, many, examples)
                told(self, "TooMany", len(texts), next_point, many, examples)
                continue
            self.assertEqual([text.pieces() for text in fitting(many, examples)], [text.pieces() for text in texts])
            self.assertEqual(simplest(many, examples, 10 ** 9), texts[0] if texts else None)
            self.assertEqual(next_point(many, examples), self.first_parting(many, texts, 5), examples)
            counts[min(len(texts), 2)] += 1
        self.assertGreater(min(counts.values()), 20, counts)

    def test_against_all_texts_of_small_weights(self):
        """Words of three letters at points with a 1 at most: no text that fits weighs more than 6."""
        texts = texts_of_weight(1, 6, "ab")
        for word in ["a", "ab", "aab", "aaa", "aba", "abb", "bab"]:
            for examples in [[([1], word)], [([1], word), ([0], word[:1])], [([1], word), ([0], "")], [([1], word), ([0], word)]]:
                right = [text for text in texts if fits(text, examples)]
                self.assertEqual(fitting(1, examples), right)
                self.assertEqual(how_many_fit(1, examples), len(right))


class AskingTest(unittest.TestCase):
    def test_asking_on_leads_to_one_text(self):
        """Whoever asks on at these points is left with the text that gives the answers."""
        chance = chances(301)
        reached = 0
        for _ in range(250):
            many = chance.randint(1, 3)
            text = some_text(chance, many, 3)
            examples = [([1] * many, word_at(text.pieces(), [1] * many))]
            most = [0, 20, 12, 12][many]
            last = None
            while len(examples[-1][1]) <= most:
                left = how_many_fit(many, examples)
                self.assertTrue(left >= 1 and (last is None or left < last))
                last = left
                if left > 200:
                    point = [0] * many if len(examples) == 1 else [1] + [0] * (many - 1)
                    if any([own == point for own, _ in examples]) or how_many_fit(many, examples + [(point, word_at(text.pieces(), point))]) == left:
                        break
                else:
                    found = fitting(many, examples)
                    self.assertIn(text, found)
                    point = next_point(many, examples)
                    if point is None:
                        self.assertEqual(found, [text])
                        reached += 1
                        break
                examples = examples + [(point, word_at(text.pieces(), point))]
        self.assertGreater(reached, 100)

    def test_next_point_is_the_least_one(self):
        self.assertEqual([next_point(2, [([1, 1], "ab")]), next_point(2, [([1, 1], "ab"), ([0, 0], "")]), next_point(2, [([1, 1], "ab"), ([0, 0], ""), ([0, 1], "b")])], [[0, 0], [0, 1], None])
        self.assertEqual(next_point(1, [([2], "aa"), ([1], "a")]), None)


class EdgesTest(unittest.TestCase):
    def test_200_texts_and_201(self):
        self.assertEqual([how_many_fit(2, FULL_200), how_many_fit(2, FULL_201)], [200, 201])
        texts = fitting(2, FULL_200)
        self.assertEqual([len(texts), texts == sorted(texts, key=row_key), next_point(2, FULL_200)], [200, True, [0, 0]])
        self.assertTrue(all([fits(text, FULL_200) for text in texts]))
        self.assertEqual(len({repr(text.pieces()) for text in texts}), 200)
        for call in [fitting, next_point]:
            told(self, "TooMany", 201, call, 2, FULL_201)

    def test_no_unknowns(self):
        self.assertEqual([how_many_fit(0, [([], "ab")]), fitting(0, [([], "ab")]), next_point(0, [([], "ab")])], [1, [OpenText(0, [("ab", (1,))])], None])
        examples = [([], "ab"), ([], "a")]
        self.assertEqual([how_many_fit(0, examples), fitting(0, examples), next_point(0, examples)], [0, [], None])
        self.assertEqual(fitting(0, [([], "")]), [OpenText(0, [])])

    def test_one_example_and_40(self):
        self.assertEqual(how_many_fit(1, [([1], "a" * 20)]), 21)
        self.assertEqual(fitting(1, [([1], "a" * 20)] * 40), fitting(1, [([1], "a" * 20)]))
        self.assertEqual(next_point(1, [([1], "a" * 20)] * 40), [0])
        examples = [([k % 7], "ab" * (k % 7) + "cb") for k in range(40)]
        self.assertEqual([fitting(1, examples), next_point(1, examples)], [[OpenText(1, [("ab", (0, 1)), ("cb", (1, 0))])], None])
        wrong = examples[:39] + [([3], "ababab")]
        self.assertEqual([how_many_fit(1, wrong), fitting(1, wrong), next_point(1, wrong)], [0, [], None])
        many = how_many_fit(1, [([1], "abcdefghijklmnopqrst")])
        told(self, "TooMany", many, fitting, 1, [([1], "abcdefghijklmnopqrst")])
        self.assertGreater(many, 10 ** 6)

    def test_two_and_three_unknowns_with_12_letters(self):
        examples = [([1, 0], "a" * 12), ([0, 1], "a" * 12)]
        self.assertEqual([how_many_fit(2, examples), len(fitting(2, examples)), next_point(2, examples)], [13, 13, [0, 0]])
        examples = [([1, 1, 1], "a" * 12), ([1, 0, 0], "a" * 12), ([0, 1, 0], "a" * 12), ([0, 0, 1], "a" * 12)]
        self.assertEqual([fitting(3, examples), next_point(3, examples)], [[OpenText(3, [("a" * 12, (1, 0, 0, 0))])], None])
        self.assertEqual(how_many_fit(3, [([1, 1, 1], "a" * 12)]), 455)
        self.assertEqual(how_many_fit(3, [([1, 0, 0], "a" * 5), ([0, 1, 0], "a" * 5), ([0, 0, 1], "a" * 5)]), 6)

    def test_far_points(self):
        self.assertEqual([how_many_fit(1, [([FAR], "ab")]), fitting(1, [([10 ** 29], "ab")]), next_point(1, [([FAR], "ab")])], [1, [OpenText(1, [("ab", (1, 0))])], None])
        examples = [([FAR, 1], "ab")]
        self.assertEqual([how_many_fit(2, examples), next_point(2, examples)], [5, [0, 0]])
        self.assertTrue(all([fits(text, examples) for text in fitting(2, examples)]))

    def test_not_full(self):
        for many, examples in [(1, [([0], "a")]), (2, [([1, 0], "a"), ([2, 0], "aa")]), (3, [([1, 0, 0], ""), ([0, 1, 0], "")]), (3, [([0, 0, 0], "")])]:
            for call in [how_many_fit, fitting, next_point]:
                told(self, "InvalidExamples", examples, call, many, examples)
        self.assertEqual(how_many_fit(3, [([1, 0, 0], ""), ([0, 1, 0], ""), ([0, 0, 1], "")]), 1)


class WrongInputsTest(unittest.TestCase):
    def test_all(self):
        for call in [how_many_fit, fitting, next_point]:
            refused(self, "InvalidNumber", lambda value: is_number(value, 0, 3), lambda value: call(value, None))
            for many in range(4):
                refused(self, "InvalidExamples", lambda value: are_examples(many, value) and is_full(many, value), lambda value: call(many, value))
            for value in [[([1], "a" * 21)], [([1], "a")] * 41, [], [([1], "a"), None]]:
                told(self, "InvalidExamples", value, call, 1, value)
            told(self, "InvalidNumber", 4, call, 4, FULL_201)

    def test_by_names_and_lists_stay(self):
        examples = [([1], "ab")]
        for _ in range(2):
            self.assertEqual([how_many_fit(many=1, examples=examples), len(fitting(many=1, examples=examples)), next_point(many=1, examples=examples)], [5, 5, [0]])
            fitting(1, examples).append(1), next_point(1, examples).append(2)
        self.assertEqual(examples, [([1], "ab")])


if __name__ == "__main__":
    unittest.main()
