"""[59], [60]: texts, read back from the word that they write at one point."""

import unittest
from itertools import product

from countscribe.kept import KeptWord, joined_kept
from countscribe.keptorder import same_kept
from countscribe.readback import read_back, read_kept, reading_point
from countscribe.texts import OpenText, kept, size, spread, written
from helper import FAR, chances, is_number, refused, run_example, small_words, some_pieces, some_word, told
from plaintexts import texts_of_size

EXAMPLE = """
from countscribe.readback import read_back, reading_point
[reading_point(2, 2, 3), read_back(1, 2, 2, "ababab").pieces(), read_back(1, 2, 2, "aaab").pieces(), read_back(1, 2, 2, "aab"), read_back(1, 2, 1, "aaa")]
# [[3, 9], [('ab', (0, 1))], [('a', (0, 1)), ('b', (1, 0))], None, None]
"""


def sliced(word, chance):
    """A kept word that writes a word in pieces of some lengths."""
    pieces = []
    while word:
        by = chance.randint(1, 7)
        pieces.append((word[:by], 1))
        word = word[by:]
    return KeptWord(pieces)


class ExampleTest(unittest.TestCase):
    def test_example(self):
        run_example(self, EXAMPLE)


class PlainCheckTest(unittest.TestCase):
    BOUNDS = [(0, 5, 1), (0, 3, 5), (1, 5, 2), (1, 4, 3), (2, 4, 2), (1, 3, 4), (1, 3, 1), (2, 3, 2), (2, 2, 3), (3, 2, 2), (3, 3, 1), (1, 1, 3), (2, 0, 7), (1, 2, 2), (0, 0, 1)]

    def test_all_small_texts(self):
        """Each of them comes back, and of their words changed in one letter only those that another one writes."""
        chance = chances(210)
        changed = {True: 0, False: 0}
        for many, most, bound in self.BOUNDS:
            point = reading_point(many, most, bound)
            known = {}
            for text in texts_of_size(many, most, bound, "ab"):
                word = written(text, point)
                self.assertNotIn(word, known)
                known[word] = text
            for word, text in known.items():
                found = read_back(many, most, bound, word)
                self.assertEqual(found, text)
                self.assertEqual(read_kept(many, most, bound, kept(text, point)), text)
                for _ in range(4):
                    at = chance.randrange(len(word) + 1)
                    for other in [word[:at] + "b" + word[at + 1:], word[:at] + "a" + word[at:], word[:at] + word[at + 1:]]:
                        found = read_back(many, most, bound, other)
                        self.assertEqual(found, known.get(other), (many, most, bound, other))
                        changed[found is None] += 1
        self.assertTrue(min(changed.values()) > 1000, changed)

    def test_all_small_words(self):
        for many, most, bound in [(1, 3, 2), (2, 2, 2), (0, 3, 1), (1, 2, 3)]:
            known = {written(text, reading_point(many, most, bound)): text for text in texts_of_size(many, most, bound, "ab")}
            for word in small_words("ab", 11):
                self.assertEqual(read_back(many, most, bound, word), known.get(word), word)

    def test_larger_texts(self):
        chance = chances(211)
        read = 0
        for _ in range(300):
            many = chance.randint(0, 3)
            text = OpenText(many, some_pieces(chance, many, 9, chance.choice(["a", "aab", "ab", "abc"])))
            most, bound = size(text) + chance.choice([0, 0, 1, 5]), spread(text) + chance.choice([0, 0, 1, 999])
            if most > 40:
                continue
            whole = kept(text, reading_point(many, most, bound))
            self.assertEqual(read_kept(many, most, bound, whole), text)
            read += 1
            if size(text):
                found = read_kept(many, size(text) - 1, bound, kept(text, reading_point(many, size(text) - 1, bound)))
                self.assertNotEqual(found, text)
            if spread(text) > 1:
                found = read_kept(many, most, spread(text) - 1, kept(text, reading_point(many, most, spread(text) - 1)))
                self.assertNotEqual(found, text)
        self.assertGreater(read, 200)

    def test_kept_words_in_other_pieces(self):
        chance = chances(212)
        for _ in range(200):
            many = chance.randint(0, 2)
            text = OpenText(many, some_pieces(chance, many, 3))
            point = reading_point(many, size(text), spread(text))
            whole = kept(text, point)
            if whole.length() <= 400:
                self.assertEqual(read_kept(many, size(text), spread(text), sliced(whole.plain(), chance)), text)
                self.assertEqual(read_back(many, size(text), spread(text), whole.plain()), text)
            at = chance.randint(0, whole.length())
            cut = joined_kept(whole.part(0, at), whole.part(at, whole.length()))
            self.assertEqual(read_kept(many, size(text), spread(text), cut), text)


class EdgesTest(unittest.TestCase):
    def test_reading_points(self):
        self.assertEqual([reading_point(0, 5, 5), reading_point(1, 0, 1), reading_point(3, 40, 10 ** 9), reading_point(3, 4, 1)],
                         [[], [1], [41, 41 * 10 ** 9, 41 * 10 ** 18], [5, 5, 5]])

    def test_size_0_and_spread_1(self):
        for many in range(4):
            self.assertEqual([read_back(many, 0, 1, ""), read_back(many, 0, 10 ** 9, "a"), read_back(many, 0, 1, "aaa")], [OpenText(many, []), None, None])
            word = OpenText(many, [("abab", (1,) + (0,) * many)])
            self.assertEqual([read_back(many, 4, 1, "abab"), read_back(many, 3, 1, "abab"), read_back(many, 40, 1, "abab")], [word, None, word])
            self.assertEqual(read_kept(many, 0, 1, KeptWord([("a", FAR)])), None)
            self.assertEqual(read_back(many, 40, 1, "a" * 41), None)

    def test_spreads(self):
        for bound in [2, 10 ** 9]:
            text = OpenText(3, [("ab", (0, bound - 1, 0, 1)), ("b", (0, 0, bound - 1, bound - 1)), ("abb", (1, 0, 0, 0))])
            for most in [size(text), 40]:
                whole = kept(text, reading_point(3, most, bound))
                self.assertEqual(read_kept(3, most, bound, whole), text)
                self.assertIsNone(read_kept(2, most, bound, whole))
        text = OpenText(1, [("a", (0, 3))])
        self.assertEqual([read_kept(1, 1, 4, KeptWord([("a", 6)])), read_kept(1, 1, 3, KeptWord([("a", 6)])), read_kept(1, 1, 4, KeptWord([("a", 7)]))], [text, None, None])

    def test_40_letters(self):
        chance = chances(213)
        for _ in range(60):
            many = chance.randint(1, 3)
            pieces, left = [], 40
            while left > 5:
                word = some_word(chance, chance.choice(["a", "ab", "aab"]), 1, 4)
                left -= len(word)
                form = (0,) + tuple([chance.choice([0, 1, 10 ** 9 - 1, chance.randrange(10 ** 9)]) for _ in range(many)])
                pieces.append((word, form if chance.random() < 0.6 else (1,) + (0,) * many))
            text = OpenText(many, pieces)
            if spread(text) <= 10 ** 9:
                whole = kept(text, reading_point(many, 40, 10 ** 9))
                self.assertEqual(read_kept(many, 40, 10 ** 9, whole), text)
                longer = joined_kept(whole, KeptWord([("c", 1)]))
                self.assertEqual(read_kept(many, 40, 10 ** 9, longer), OpenText(many, text.pieces() + [("c", (1,) + (0,) * many)]) if size(text) < 40 else None)

    def test_20000_letters(self):
        text = OpenText(1, [("ab", (0, 11)), ("aab", (0, 5)), ("b", (0, 7)), ("ccc", (1, 0))])
        word = written(text, reading_point(1, 40, 12))
        self.assertEqual(read_back(1, 40, 12, word), text)
        self.assertEqual(read_back(1, 40, 500, "a" * 41 * 487), OpenText(1, [("a", (0, 487))]))
        for word in ["a" * 20000, "ab" * 10000, "a" * 19999 + "b", "ab" * 4000 + "a" * 4000 + "b" * 8000, some_word(chances(214), "ab", 20000, 20000)]:
            for many, bound in [(1, 2), (1, 10 ** 9), (3, 7), (2, 40)]:
                found = read_back(many, 40, bound, word)
                self.assertTrue(found is None or written(found, reading_point(many, 40, bound)) == word)
        fibonacci, ahead = "a", "b"
        while len(fibonacci) < 20000:
            fibonacci, ahead = fibonacci + ahead, fibonacci
        self.assertIsNone(read_back(2, 40, 3, fibonacci[:20000]))

    def test_200_pieces_with_great_numbers(self):
        chance = chances(215)
        for letters in ["a", "ab", "abc"]:
            pieces = [(some_word(chance, letters, 1, 5), chance.choice([1, 1, 2, 41, 10 ** 30])) for _ in range(200)]
            for whole in [KeptWord(pieces), KeptWord([("ab", 1), ("ba", 1)] * 100), KeptWord([("ab", 1), ("abab", 1)] * 100), KeptWord([("a", k + 1) for k in range(200)])]:
                for many, bound in [(1, 10 ** 9), (3, 10 ** 9), (2, 2)]:
                    found = read_kept(many, 40, bound, whole)
                    self.assertTrue(found is None or same_kept(kept(found, reading_point(many, 40, bound)), whole))
        # One power, put down in 200 pieces.
        times = 41 * (123456789 + 7 * 10 ** 9 + 10 ** 18)
        parts = [chance.randint(1, times // 300) for _ in range(199)]
        pieces = [("ab" * (1 + k % 2), number) for k, number in enumerate(parts)]
        rest = 2 * times - KeptWord(pieces).length()
        whole = KeptWord(pieces + [("ab", rest // 2)])
        self.assertEqual(read_kept(3, 40, 10 ** 9, whole), OpenText(3, [("ab", (0, 123456789, 7, 1))]))

    def test_powers_side_by_side(self):
        for words in product(["a", "ab", "ba", "b", "aab"], repeat=3):
            text = OpenText(2, [(word, (0, 1 + k % 2, k // 2)) for k, word in enumerate(words)])
            for most in [size(text), 40]:
                bound = spread(text) + 1
                self.assertEqual(read_kept(2, most, bound, kept(text, reading_point(2, most, bound))), text)


class WrongInputsTest(unittest.TestCase):
    def test_bounds(self):
        for call in [lambda many, most, bound: reading_point(many, most, bound), lambda many, most, bound: read_back(many, most, bound, ""), lambda many, most, bound: read_kept(many, most, bound, KeptWord([]))]:
            refused(self, "InvalidNumber", lambda value: is_number(value, 0, 3), lambda value: call(value, None, None))
            refused(self, "InvalidNumber", lambda value: is_number(value, 0, 40), lambda value: call(1, value, None))
            refused(self, "InvalidNumber", lambda value: is_number(value, 1, 10 ** 9), lambda value: call(1, 2, value))
            for many, most, bound, wrong in [(4, 41, 0, 4), (3, 41, 0, 41), (3, 40, 0, 0), (3, 40, 10 ** 9 + 1, 10 ** 9 + 1), (-1, -1, 1, -1), (0, -1, 1, -1)]:
                told(self, "InvalidNumber", wrong, call, many, most, bound)

    def test_words(self):
        refused(self, "InvalidWord", lambda value: isinstance(value, str) and len(value) <= 20000 and (value == "" or value.isalpha() and value.islower()), lambda value: read_back(1, 2, 2, value))
        refused(self, "InvalidKept", lambda value: isinstance(value, KeptWord), lambda value: read_kept(1, 2, 2, value))
        told(self, "InvalidNumber", 0, read_back, 1, 2, 0, None)
        told(self, "InvalidNumber", 0, read_kept, 1, 2, 0, None)

    def test_by_names_and_kept_words_stay(self):
        whole = KeptWord([("ab", 2), ("abab", 1)])
        for _ in range(2):
            self.assertEqual(reading_point(many=1, size=2, spread=3), [3])
            self.assertEqual(read_back(many=1, size=3, spread=2, word="abababab"), OpenText(1, [("ab", (0, 1))]))
            self.assertEqual(read_kept(many=1, size=3, spread=2, kept=whole), OpenText(1, [("ab", (0, 1))]))
            reading_point(1, 2, 3).append(1)
        self.assertEqual(whole.pieces(), [("ab", 2), ("abab", 1)])


if __name__ == "__main__":
    unittest.main()
