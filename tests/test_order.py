"""[42]: how far texts for one unknown agree, and which comes first."""

import unittest

from countscribe.beginnings import common_beginning
from countscribe.keptorder import agree, compare
from countscribe.order import agreement, order_along, ranks_along
from countscribe.runs import is_run, run_value
from countscribe.texts import OpenText, joined, kept, length, size, written
from helper import FAR, chances, refused, run_example, some_pieces, some_text, some_word, strange_values, told

EXAMPLE = """
from countscribe.order import agreement, order_along, ranks_along
from countscribe.texts import OpenText
text, other = OpenText(1, [("ab", (0, 1)), ("c", (1, 0)), ("b", (2, 1))]), OpenText(1, [("abab", (0, 1)), ("c", (1, 0))])
[agreement(text, other), agreement(text, text), order_along(text, other), order_along(other, text)]
# [([1], 2, 2), ([], 3, 3), ([], 1, 0), ([], -1, 0)]
[agreement(OpenText(1, [("a", (0, 1))]), OpenText(1, [("a", (3, 0))])), order_along(OpenText(1, [("a", (0, 1))]), OpenText(1, [("a", (3, 0))]))]
# [([0, 1, 2], 3, 0), ([-1, -1, -1, 0], 1, 0)]
ranks_along([text, other, OpenText(1, [("b", (0, 1))])])
# [([2], 1, 0), ([1], 0, 0), ([0], 2, 0)]
"""


def is_text_along(value):
    return isinstance(value, OpenText) and value.many() == 1


def plain_agreement(one, other):
    at = 0
    while at < len(one) and at < len(other) and one[at] == other[at]:
        at += 1
    return at


def plain_order(one, other):
    return (one > other) - (one < other)


def plain_ranks(words):
    ordered = sorted([(word, at) for at, word in enumerate(words)])
    return [ordered.index((word, at)) for at, word in enumerate(words)]


def some_pair(chance):
    """Two texts for one unknown that often agree for long."""
    signs = chance.choice(["a", "ab", "ab", "abc"])
    if chance.random() < 0.3:
        text = some_text(chance, 1, 3, signs)
        return joined(text, some_text(chance, 1, 3, signs)), joined(text, some_text(chance, 1, 3, signs))
    word, many = some_word(chance, signs, 1, 3), chance.randint(0, 9)
    one = OpenText(1, [(word, (chance.randint(0, 3), chance.randint(0, 3)))] + some_pieces(chance, 1, 3, signs))
    return one, OpenText(1, [(word, (many, chance.randint(0, 3)))] + some_pieces(chance, 1, 3, signs))


class ExampleTest(unittest.TestCase):
    def test_example(self):
        run_example(self, EXAMPLE)


class PlainCheckTest(unittest.TestCase):
    def test_agreement_and_order(self):
        chance = chances(130)
        lists = 0
        for _ in range(800):
            one, other = some_pair(chance)
            most = max(size(one), size(other)) + 1
            how_far, first = agreement(one, other), order_along(one, other)
            for count in range(most + 6):
                left, right = written(one, [count]), written(other, [count])
                self.assertEqual(run_value(how_far, count), plain_agreement(left, right))
                self.assertEqual(run_value(first, count), plain_order(left, right))
            for run in [how_far, first]:
                self.assertIs(is_run(run), True)
                self.assertLessEqual(len(run[0]), most)
            self.assertEqual(first[2], 0)
            self.assertEqual(agreement(other, one), how_far)
            lists += len(how_far[0]) > 3 or len(first[0]) > 3
            start = length(common_beginning(one, other))
            self.assertEqual(how_far[2], start[1])
            for count in range(most + 6):
                self.assertGreaterEqual(run_value(how_far, count), start[0] + count * start[1])
            for count in [10 ** 6 + 1, FAR]:
                self.assertEqual(run_value(how_far, count), agree(kept(one, [count]), kept(other, [count])))
                self.assertEqual(run_value(first, count), compare(kept(one, [count]), kept(other, [count])))
        self.assertGreater(lists, 60)

    def test_ranks(self):
        chance = chances(131)
        for _ in range(250):
            texts = []
            while len(texts) < chance.randint(1, 5):
                texts.extend(some_pair(chance))
            texts = texts[:5]
            if chance.random() < 0.3:
                texts[0] = texts[-1]
            found = ranks_along(texts)
            most = max([size(text) for text in texts]) + 1
            for count in range(most + 4):
                self.assertEqual([run_value(run, count) for run in found], plain_ranks([written(text, [count]) for text in texts]))
            for run in found:
                self.assertIs(is_run(run), True)
                self.assertEqual(run[2], 0)
                self.assertLessEqual(len(run[0]), most)


class EdgesTest(unittest.TestCase):
    def test_the_empty_text_and_texts_without_a_power(self):
        none, word, more = OpenText(1, []), OpenText(1, [("ab", (1, 0))]), OpenText(1, [("abc", (1, 0))])
        self.assertEqual([agreement(none, none), agreement(none, word), agreement(word, more)], [([], 0, 0), ([], 0, 0), ([], 2, 0)])
        self.assertEqual([order_along(none, none), order_along(none, word), order_along(more, word)], [([], 0, 0), ([], -1, 0), ([], 1, 0)])
        self.assertEqual(ranks_along([more, none, word]), [([], 2, 0), ([], 0, 0), ([], 1, 0)])

    def test_one_and_five_texts_and_the_same_one_twice(self):
        text, other = OpenText(1, [("a", (0, 1))]), OpenText(1, [("aa", (1, 0))])
        self.assertEqual(ranks_along([text]), [([], 0, 0)])
        self.assertEqual(ranks_along([text, text]), [([], 0, 0), ([], 1, 0)])
        self.assertEqual(ranks_along([other, text, text, other, text]),
                         [([3, 3], 0, 0), ([0, 0, 1], 2, 0), ([1, 1, 2], 3, 0), ([4, 4, 3], 1, 0), ([2, 2], 4, 0)])

    def test_one_begins_the_other(self):
        one, other = OpenText(1, [("ab", (0, 1))]), OpenText(1, [("ab", (0, 1)), ("a", (0, 1))])
        self.assertEqual([agreement(one, other), order_along(one, other), order_along(other, one)], [([], 0, 2), ([0], -1, 0), ([0], 1, 0)])

    def test_lists_of_just_the_bound(self):
        one, other = OpenText(1, [("a", (0, 1))]), OpenText(1, [("a" * 299, (1, 0))])
        self.assertEqual(agreement(one, other), (list(range(299)), 299, 0))
        self.assertEqual(order_along(one, other), ([-1] * 299 + [0], 1, 0))
        self.assertEqual(len(order_along(one, other)[0]), size(other) + 1)

    def test_great_numbers(self):
        far = 10 ** 39
        one, other = OpenText(1, [("ab", (2, far)), ("c", (1, 0))]), OpenText(1, [("ab", (0, far + 1)), ("b", (1, 0))])
        self.assertEqual(agreement(one, other), ([0, 2 * far + 2], 4 * far + 4, 2 * far))
        self.assertEqual(order_along(one, other), ([-1, -1], 1, 0))

    def test_near_the_limits(self):
        chance = chances(132)
        pieces = []
        for _ in range(10):
            pieces.extend([(some_word(chance, "ab", 14, 15), (0, chance.randint(1, FAR))), (some_word(chance, "ab", 14, 15), (1, 0))])
        texts = [OpenText(1, pieces[:k] + [("ab", (1, 0))] + pieces[k:19]) for k in range(15, 19)] + [OpenText(1, pieces)]
        found = ranks_along(texts)
        for count in [0, 1, 300, FAR]:
            words = [kept(text, [count]) for text in texts]
            for at in range(5):
                before = [compare(words[k], words[at]) < 0 or (k < at and not compare(words[k], words[at])) for k in range(5)]
                self.assertEqual(run_value(found[at], count), sum(before))
            self.assertEqual(run_value(agreement(texts[0], texts[4]), count), agree(words[0], words[4]))


class WrongInputsTest(unittest.TestCase):
    def test_texts(self):
        text = OpenText(1, [("a", (0, 1))])
        for call in [agreement, order_along]:
            refused(self, "InvalidText", is_text_along, lambda value: call(value, text))
            refused(self, "InvalidText", is_text_along, lambda value: call(text, value))
            for many in [0, 2, 3]:
                other = OpenText(many, [])
                told(self, "InvalidText", other, call, text, other)
                told(self, "InvalidText", other, call, other, None)

    def test_lists_of_texts(self):
        text = OpenText(1, [("a", (0, 1))])
        refused(self, "InvalidList", lambda value: isinstance(value, list) and 1 <= len(value) <= 5, ranks_along)
        for value in [[], [text] * 6, (text,), text, [None] * 6]:
            told(self, "InvalidList", value, ranks_along, value)
        for value in strange_values():
            if not is_text_along(value):
                told(self, "InvalidText", value, ranks_along, [text, value, None])
        other = OpenText(2, [])
        told(self, "InvalidText", other, ranks_along, [text, text, other, OpenText(0, []), text])

    def test_by_names_and_lists_stay(self):
        text, other = OpenText(1, [("a", (0, 1))]), OpenText(1, [("aa", (1, 0))])
        texts = [text, other]
        found = ranks_along(texts=texts)
        found.append(1), found[0][0].append(7)
        self.assertEqual(len(texts), 2)
        self.assertIs(texts[0], text)
        self.assertEqual([agreement(one=text, other=other), order_along(one=text, other=other)], [([0, 1], 2, 0), ([-1, -1, 0], 1, 0)])
        self.assertEqual(ranks_along(texts), [([0, 0, 0], 1, 0), ([1, 1, 1], 0, 0)])
        self.assertEqual(text.pieces(), [("a", (0, 1))])


if __name__ == "__main__":
    unittest.main()
