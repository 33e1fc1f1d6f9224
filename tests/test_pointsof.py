"""[57], [58]: the points at which a text writes a word, and the words that several texts write."""

import unittest

from countscribe.pointsof import points_of, shared_words
from countscribe.texts import OpenText, length, mirrored, unknowns, written
from helper import FAR, all_points, chances, is_number, refused, run_example, small_words, some_text, strange_values, told, word_at

EXAMPLE = """
from countscribe.pointsof import points_of, shared_words
from countscribe.texts import OpenText
[points_of(OpenText(2, [("a", (0, 1, 1))]), "aa"), points_of(OpenText(2, [("a", (0, 1, 0)), ("ab", (0, 0, 1))]), "aab")]
# [[[0, 2], [1, 1], [2, 0]], [[1, 1]]]
shared_words([OpenText(2, [("a", (0, 1, 0)), ("b", (1, 0, 0)), ("a", (0, 0, 1))]), OpenText(1, [("ab", (0, 1)), ("a", (1, 0))])], 5)
# ['aba']
"""


def is_bound(value):
    """Whether a value is an open text each of whose unknowns stands in a power."""
    return isinstance(value, OpenText) and unknowns(value) == list(range(value.many()))


def bound_texts(chance, count, letters="ab"):
    """Some texts each of whose unknowns stands in a power."""
    found = []
    while len(found) < count:
        text = some_text(chance, chance.randint(0, 3), 5, letters)
        if is_bound(text):
            found.append(text)
    return found


def words_at(text, most):
    """The words that a text writes at all points with counts up to a number, by their points."""
    return [(point, word_at(text.pieces(), point)) for point in all_points(text.many(), most)]


class ExampleTest(unittest.TestCase):
    def test_example(self):
        run_example(self, EXAMPLE)


class PointsOfTest(unittest.TestCase):
    def test_all_points_with_counts_up_to_the_letters(self):
        chance = chances(200)
        several = 0
        for text in bound_texts(chance, 200) + bound_texts(chance, 60, "a"):
            rows = words_at(text, 6)
            words = [word for _, word in rows if len(word) <= 6] + small_words("ab", 3)
            for word in set(words):
                found = points_of(text, word)
                self.assertEqual(found, [point for point, own in rows if own == word], (text.pieces(), word))
                several += len(found) > 1
        self.assertGreater(several, 20)

    def test_no_unknowns(self):
        text = OpenText(0, [("ab", (2,))])
        self.assertEqual([points_of(text, "abab"), points_of(text, "aba"), points_of(text, "")], [[[]], [], []])
        self.assertEqual([points_of(OpenText(0, []), ""), points_of(OpenText(0, []), "a")], [[[]], []])

    def test_three_unknowns(self):
        text = OpenText(3, [("a", (0, 1, 2, 0)), ("b", (1, 0, 0, 0)), ("a", (0, 0, 0, 3))])
        self.assertEqual(points_of(text, "aaabaaa"), [[1, 1, 1], [3, 0, 1]])
        self.assertEqual([points_of(text, "b"), points_of(text, ""), points_of(text, "ba")], [[[0, 0, 0]], [], []])

    def test_200_letters(self):
        text = OpenText(3, [("a", (0, 1, 1, 1))])
        found = points_of(text, "a" * 200)
        self.assertEqual(len(found), 201 * 202 // 2)
        self.assertEqual([found[0], found[1], found[-1], found == sorted(found)], [[0, 0, 200], [0, 1, 199], [200, 0, 0], True])
        self.assertEqual(points_of(text, "a" * 199 + "b"), [])
        text = OpenText(3, [("a", (0, 1, 0, 0)), ("ab", (0, 0, 1, 0)), ("b", (0, 0, 0, 1)), ("c", (1, 0, 0, 0))])
        self.assertEqual(points_of(text, "a" * 57 + "ab" * 40 + "b" * 62 + "c"), [[57, 40, 62]])
        text = OpenText(3, [piece for k in range(300) for piece in [("ab"[k % 2], (0, k % 2, 1, (k + 1) % 2))]])
        self.assertEqual([points_of(text, ""), points_of(text, "ba" * 100)], [[[0, 0, 0]], []])
        text = OpenText(1, [("a", (200, 1))])
        self.assertEqual([points_of(text, "a" * 200), points_of(text, "a" * 199)], [[[0]], []])
        word = "a" * 201
        told(self, "TooLong", 201, points_of, text, word)
        told(self, "TooLong", 20000, points_of, OpenText(0, []), "a" * 20000)

    def test_far_numbers(self):
        text = OpenText(2, [("a", (3, FAR, 1)), ("b", (0, 10 ** 18, 0))])
        self.assertEqual([points_of(text, "aaaaa"), points_of(text, "aa"), points_of(text, "aaab")], [[[0, 2]], [], []])


class SharedWordsTest(unittest.TestCase):
    def test_against_all_words(self):
        chance = chances(201)
        found, several = 0, 0
        for _ in range(600):
            texts = bound_texts(chance, chance.randint(1, 4), chance.choice(["a", "ab", "aaab"]))
            if chance.random() < 0.4:
                texts = texts[:2] + [mirrored(texts[0])]
            most = chance.randint(0, 5)
            words = set(small_words("ab", most))
            for text in texts:
                words = words & {word for _, word in words_at(text, most)}
            result = shared_words(texts, most)
            self.assertEqual(result, sorted(words, key=lambda word: (len(word), word)), [text.pieces() for text in texts])
            found += len(result) > 0
            several += len(result) > 2
        self.assertTrue(found > 100 and several > 3, (found, several))

    def test_the_same_text_twice(self):
        text = OpenText(1, [("ab", (1, 2))])
        self.assertEqual([shared_words([text], 6), shared_words([text, text], 6), shared_words([text] * 4, 1)], [["ab", "ababab"], ["ab", "ababab"], []])

    def test_edges_of_the_number(self):
        text, other = OpenText(2, [("a", (0, 1, 0)), ("b", (0, 0, 1))]), OpenText(1, [("aab", (0, 1))])
        self.assertEqual([shared_words([text, other], 0), shared_words([text], 0), shared_words([text, other], 40), shared_words([text], 1)], [[""], [""], ["", "aab"], ["", "a", "b"]])
        self.assertEqual(shared_words([OpenText(1, [("a", (1, 1))])], 0), [])
        self.assertEqual(len(shared_words([text], 40)), 41 * 42 // 2)
        wide = OpenText(3, [("a", (0, 1, 0, 0)), ("b", (0, 0, 1, 0)), ("a", (0, 0, 0, 1))])
        found = shared_words([wide, wide, OpenText(3, [("b", (0, 1, 0, 0)), ("a", (0, 0, 1, 0)), ("b", (0, 0, 0, 1))]), text], 40)
        self.assertEqual(found, sorted([word for k in range(41) for word in {"a" * own + "b" * (k - own) for own in range(k + 1)}], key=lambda word: (len(word), word)))

    def test_texts_with_other_numbers_of_unknowns(self):
        texts = [OpenText(0, [("aba", (1,))]), OpenText(1, [("ab", (0, 1)), ("a", (1, 0))]), OpenText(2, [("a", (0, 1, 0)), ("ba", (0, 0, 1))]), OpenText(3, [("a", (0, 1, 1, 1)), ("ba", (1, 0, 0, 0))])]
        self.assertEqual([shared_words(texts, 3), shared_words(texts, 2), shared_words(texts[1:], 40)], [["aba"], [], ["aba"]])


class WrongInputsTest(unittest.TestCase):
    def test_texts(self):
        refused(self, "InvalidText", is_bound, lambda value: points_of(value, "a"))
        refused(self, "InvalidList", lambda value: isinstance(value, list) and value != [] and len(value) <= 4, lambda value: shared_words(value, 1))
        for value in strange_values():
            if not is_bound(value):
                told(self, "InvalidText", value, shared_words, [OpenText(0, []), value, None], 41)
        loose = [OpenText(1, []), OpenText(2, [("a", (0, 1, 0))]), OpenText(3, [("a", (0, 1, 0, 1)), ("b", (0, 2, 0, 0))]), OpenText(1, [("abc", (1, 0))])]
        for value in loose:
            told(self, "InvalidText", value, points_of, value, None)
            told(self, "InvalidText", value, shared_words, [value, None], None)
        text = OpenText(0, [])
        value = [text] * 5
        told(self, "InvalidList", value, shared_words, value, None)
        value = (text,)
        told(self, "InvalidList", value, shared_words, value, 3)

    def test_words_and_numbers(self):
        text = OpenText(1, [("a", (0, 1))])
        refused(self, "InvalidWord", lambda value: isinstance(value, str) and len(value) <= 3 and (value == "" or value.isalpha() and value.islower()), lambda value: points_of(text, value))
        refused(self, "InvalidNumber", lambda value: is_number(value, 0, 40), lambda value: shared_words([text], value))
        for value in [-1, 41, 10 ** 30, True]:
            told(self, "InvalidNumber", value, shared_words, [text], value)
        word = "A" * 300
        told(self, "InvalidWord", word, points_of, text, word)

    def test_by_names_and_lists_stay(self):
        text = OpenText(2, [("a", (0, 1, 1))])
        texts = [text, text]
        for _ in range(2):
            self.assertEqual([points_of(text=text, word="a"), shared_words(texts=texts, most=1)], [[[0, 1], [1, 0]], ["", "a"]])
            points = points_of(text, "a")
            points[0].append(7), points.append(1), shared_words(texts, 1).append(1)
        self.assertEqual([texts == [text, text], text.pieces(), length(text), written(text, [1, 1])], [True, [("a", (0, 1, 1))], (0, 1, 1), "aa"])


if __name__ == "__main__":
    unittest.main()
