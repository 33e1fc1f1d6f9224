"""[6] to [8]: words."""

import unittest

from countscribe.words import (
    common_end, common_start, goes_on, is_word, least_turn, period, places, root, turned,
)
from helper import answered_false, chances, is_number, refused, run_example, small_words, some_word, told

EXAMPLE = """
from countscribe.words import common_end, common_start, goes_on, is_word, least_turn, period, places, root, turned
[turned("abcde", 2), turned("abc", 7), turned("", 5), root("abab"), root("aba"), period("abaab"), period("aaa"), period("ab")]
# ['cdeab', 'bca', '', ('ab', 2), ('aba', 1), 3, 1, 2]
[common_start("abc", "abd"), common_end("xab", "ab"), goes_on("ab", "ababb"), goes_on("aba", "ab"), places("aba", "ababa")]
# [2, 2, 4, 2, [0, 2]]
[least_turn("bab"), least_turn("abab"), is_word(""), is_word("aB"), is_word(7)]
# [(1, 'abb'), (0, 'abab'), True, False, False]
"""

SMALL = small_words("ab", 6) + small_words("abc", 3)


def is_plain_word(value):
    return isinstance(value, str) and len(value) <= 20000 and all([letter in "abcdefghijklmnopqrstuvwxyz" for letter in value])


def is_some_word(value):
    return is_plain_word(value) and value != ""


class ExampleTest(unittest.TestCase):
    def test_example(self):
        run_example(self, EXAMPLE)


class PlainCheckTest(unittest.TestCase):
    def test_turned(self):
        for word in SMALL:
            turn = word
            for by in range(9):
                self.assertEqual(turned(word, by), turn)
                turn = turn[1:] + turn[:1]
        self.assertEqual(turned("abc", 10 ** 44 + 2), "abc"[(10 ** 44 + 2) % 3:] + "abc"[:(10 ** 44 + 2) % 3])

    def test_root_and_period(self):
        for word in SMALL:
            if not word:
                continue
            size = min([k for k in range(1, len(word) + 1) if len(word) % k == 0 and word[:k] * (len(word) // k) == word])
            self.assertEqual(root(word), (word[:size], len(word) // size))
            self.assertEqual(period(word), min([k for k in range(1, len(word) + 1) if word[k:] == word[:len(word) - k]]))

    def test_what_two_words_have_in_common(self):
        for one in SMALL:
            for other in SMALL:
                sizes = range(min(len(one), len(other)) + 1)
                self.assertEqual(common_start(one, other), max([k for k in sizes if one[:k] == other[:k]]))
                ends = [k for k in sizes if one[len(one) - k:] == other[len(other) - k:]]
                self.assertEqual(common_end(one, other), max(ends))
                if one:
                    without_end = (one * (len(other) + 1))[:len(other)]
                    alike = [k for k in range(len(other) + 1) if without_end[:k] == other[:k]]
                    self.assertEqual(goes_on(one, other), max(alike))
                    found = [at for at in range(len(other)) if other[at:at + len(one)] == one]
                    self.assertEqual(places(one, other), found)

    def test_least_turn(self):
        for word in SMALL:
            turns = [word[by:] + word[:by] for by in range(max(1, len(word)))]
            self.assertEqual(least_turn(word), (turns.index(min(turns)), min(turns)))
        chance = chances(1)
        for _ in range(500):
            word = some_word(chance, "aab", 7, 30)
            turns = [word[by:] + word[:by] for by in range(len(word))]
            self.assertEqual(least_turn(word), (turns.index(min(turns)), min(turns)))


class EdgesTest(unittest.TestCase):
    def test_words(self):
        for word in ["", "a", "z", "abcdefghijklmnopqrstuvwxyz", "a" * 20000]:
            self.assertIs(is_word(word), True)
        for value in ["A", "aB", "a ", "a1", "`", "{", "a\n", "a" * 20001, "\u00e4", "\u017f", "\u00aa"]:
            self.assertIs(is_word(value), False)
        answered_false(self, is_plain_word, is_word)

    def test_empty_words(self):
        self.assertEqual((turned("", 0), turned("", 10 ** 44), least_turn("")), ("", "", (0, "")))
        self.assertEqual((common_start("", ""), common_end("", "a"), goes_on("a", ""), places("a", "")), (0, 0, 0, []))

    def test_single_letters(self):
        self.assertEqual((root("a"), period("a"), least_turn("a"), turned("a", 3)), (("a", 1), 1, (0, "a"), "a"))

    def test_place_lists_are_new(self):
        found = places("a", "aa")
        found.append(5)
        self.assertEqual(places("a", "aa"), [0, 1])

    def test_by_names(self):
        self.assertEqual(turned(by=1, word="ab"), "ba")
        self.assertEqual((root(word="aa"), period(word="aa"), least_turn(word="ba")), (("a", 2), 1, (1, "ab")))
        self.assertEqual((common_start(one="a", other="ab"), common_end(one="a", other="ab")), (1, 0))
        self.assertEqual((goes_on(word="a", text="ab"), places(part="a", text="ba"), is_word(value="a")), (1, [1], True))


class LimitsTest(unittest.TestCase):
    def test_words_of_20000_letters(self):
        size = 20000
        longs = ["a" * size, "a" * (size - 1) + "b", "b" + "a" * (size - 1), "ab" * (size // 2), "a" * 9999 + "b" + "a" * 10000]
        fibonacci = ["a", "ab"]
        while len(fibonacci[-1]) < size:
            fibonacci.append(fibonacci[-1] + fibonacci[-2])
        longs.append(fibonacci[-1][:size])
        longs.append(("a" * 99 + "b") * 200)
        for word in longs:
            self.assertIs(is_word(word), True)
            part, times = root(word)
            self.assertEqual(part * times, word)
            step = period(word)
            self.assertEqual(word[step:], word[:size - step])
            by, turn = least_turn(word)
            self.assertEqual(turned(word, by), turn)
            self.assertTrue(all([turn <= word[k:] + word[:k] for k in range(0, size, 501)]))
            self.assertEqual((common_start(word, word), common_end(word, word), goes_on(word, word)), (size, size, size))
            self.assertEqual(places(word, word), [0])
        self.assertEqual(root("ab" * 10000), ("ab", 10000))
        self.assertEqual(period("a" * size), 1)
        self.assertEqual(places("a" * 10000, "a" * size), list(range(10001)))
        self.assertEqual(places("a" * 9999 + "b", "a" * size), [])
        self.assertEqual(common_start("a" * size, "a" * 19999 + "b"), 19999)
        self.assertEqual(common_end("a" * size, "b" + "a" * 19999), 19999)
        self.assertEqual(goes_on("a", "a" * 19999 + "b"), 19999)


class WrongInputsTest(unittest.TestCase):
    def test_every_argument(self):
        for call in [root, period]:
            refused(self, "InvalidWord", is_some_word, call)
        refused(self, "InvalidWord", is_plain_word, least_turn)
        refused(self, "InvalidWord", is_plain_word, lambda value: turned(value, 1))
        refused(self, "InvalidNumber", lambda value: is_number(value, 0, 10 ** 99), lambda value: turned("ab", value))
        for call in [common_start, common_end]:
            refused(self, "InvalidWord", is_plain_word, lambda value: call(value, "a"))
            refused(self, "InvalidWord", is_plain_word, lambda value: call("a", value))
        for call in [goes_on, places]:
            refused(self, "InvalidWord", is_some_word, lambda value: call(value, "a"))
            refused(self, "InvalidWord", is_plain_word, lambda value: call("a", value))

    def test_the_first_wrong_argument_is_told(self):
        told(self, "InvalidWord", "A", turned, "A", -1)
        told(self, "InvalidWord", None, common_start, None, "B")
        told(self, "InvalidWord", "A", common_end, "A", "B")
        told(self, "InvalidWord", "", goes_on, "", "B")
        told(self, "InvalidWord", "", places, "", "B")

    def test_refused_words_of_the_longest_kind(self):
        word = "a" * 20001
        for call in [root, period, least_turn]:
            told(self, "InvalidWord", word, call, word)


if __name__ == "__main__":
    unittest.main()
