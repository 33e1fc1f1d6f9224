"""[47], [48]: the cheapest ways to put a word down."""

import unittest

from countscribe.costs import Prices
from countscribe.plainwriters import is_plain_paper, least_plain, plain_front, plain_paper
from helper import FAR, answered_false, chances, is_number, refused, run_example, small_words, some_word, strange_values, told
from plainways import pair_of, plain_least, plain_writers

EXAMPLE = """
from countscribe.costs import Prices
from countscribe.plainwriters import is_plain_paper, least_plain, plain_front
[least_plain("ababab"), least_plain("aaa"), least_plain("aaa", Prices(letter=2)), least_plain(""), plain_front("aabb"), plain_front("aaaa")]
# [(4, [('ab', 3)]), (3, [('a', 3)]), (4, [('a', 3)]), (0, []), [(2, 2), (3, 1), (4, 0)], [(1, 1), (4, 0)]]
[is_plain_paper("aaaa", None, (3, [("a", 4)], [0, 1, 2, 3, 3])), is_plain_paper("aaaa", None, (4, [("aaaa", 1)], [0, 1, 2, 3, 4]))]
# [True, False]
"""
PRICES = [None, Prices(), Prices(sign=0, number=0), Prices(sign=0), Prices(letter=2), Prices(letter=3, sign=1, number=3), Prices(sign=4, number=2),
          Prices(letter=FAR, sign=FAR, number=FAR), Prices(sign=FAR), Prices(unknown=99)]


def plain_cost(writer, prices):
    held = prices or Prices()
    letters, signs = pair_of(writer)
    return letters * held.letter + signs * (held.sign + held.number)


def is_word(value):
    return isinstance(value, str) and len(value) <= 20000 and (value == "" or value.isalpha() and value.isascii() and value.islower())


def some_words():
    """Words of up to nine letters."""
    chance = chances(160)
    found = small_words("ab", 5) + ["a" * k for k in range(6, 10)] + ["ab" * 4, "abcabcabc", "aabaabaab", "abababab", "aabbaabb"]
    return found + [some_word(chance, signs, 6, 9) for signs in ["a", "ab", "ab", "aab", "abc"] for _ in range(12)]


def long_words():
    fib, ahead = "a", "b"
    while len(fib) < 120:
        fib, ahead = fib + ahead, fib
    chance = chances(161)
    return ["a" * 120, "ab" * 60, fib[:120], some_word(chance, "ab", 120, 120), some_word(chance, "abcdefghijklm", 120, 120),
            "abcdefghijklmnopqrstuvwxyz" * 4 + "abcdefghijklmnop", "a" * 60 + "b" * 60]


def follows_all(word, prices, numbers):
    """Whether numbers rise between any two places by no more than each part that stands there costs."""
    for low in range(len(word)):
        for size in range(1, len(word) - low + 1):
            times = 1
            while low + size * times <= len(word) and word[low:low + size] * times == word[low:low + size * times]:
                if numbers[low + size * times] - numbers[low] > plain_cost([(word[low:low + size], times)], prices):
                    return False
                times += 1
    return True


class ExampleTest(unittest.TestCase):
    def test_example(self):
        run_example(self, EXAMPLE)


class PlainCheckTest(unittest.TestCase):
    def test_least_plain_and_front(self):
        for word in some_words():
            writers = plain_writers(word)
            for prices in PRICES:
                rows = [(plain_cost(writer, prices), len(writer), writer) for writer in writers]
                cost, _, writer = min(rows)
                self.assertEqual(least_plain(word, prices), (cost, writer))
            self.assertEqual(plain_front(word), plain_least([pair_of(writer) for writer in writers]))

    def test_least_cost_is_the_least_over_the_front(self):
        chance = chances(162)
        for _ in range(200):
            word = some_word(chance, chance.choice(["a", "ab", "abc"]), 0, 30)
            for prices in PRICES:
                held = prices or Prices()
                costs = [letters * held.letter + signs * (held.sign + held.number) for letters, signs in plain_front(word)]
                self.assertEqual(least_plain(word, prices)[0], min(costs))


class PaperTest(unittest.TestCase):
    def test_papers(self):
        for word in some_words() + long_words():
            for prices in PRICES if len(word) < 10 else PRICES[3:6]:
                paper = plain_paper(word, prices)
                cost, writer, numbers = paper
                self.assertEqual(cost, least_plain(word, prices)[0])
                self.assertEqual(("".join([part * times for part, times in writer]), plain_cost(writer, prices)), (word, cost))
                self.assertEqual((len(numbers), numbers[-1] - numbers[0]), (len(word) + 1, cost))
                self.assertTrue(follows_all(word, prices, numbers))
                self.assertIs(is_plain_paper(word, prices, paper), True)

    def test_papers_with_something_changed(self):
        chance = chances(163)
        seen = {True: 0, False: 0}
        for word in some_words():
            prices = chance.choice(PRICES)
            cost, writer, numbers = plain_paper(word, prices)
            for at in range(len(numbers)):
                for by in [-1, 1, chance.choice([-FAR, FAR])]:
                    changed = numbers[:at] + [numbers[at] + by] + numbers[at + 1:]
                    right = changed[-1] - changed[0] == cost and follows_all(word, prices, changed)
                    seen[right] += 1
                    self.assertIs(is_plain_paper(word, prices, (cost, writer, changed)), right)
            for wrong in [cost + 1, cost - 1, None, str(cost), [cost]]:
                self.assertIs(is_plain_paper(word, prices, (wrong, writer, numbers)), False)
            for at, (part, times) in enumerate(writer):
                for item in [(part, times + 1), (part + "a", times), (part, 0), (part, True), (part, -1), ("", 1), (part,), [part, times], (part, times, 1),
                             None, (part, FAR), (part.upper(), times)]:
                    if item != (part, times) or item[1] is True:
                        self.assertIs(is_plain_paper(word, prices, (cost, writer[:at] + [item] + writer[at + 1:], numbers)), False)
                self.assertIs(is_plain_paper(word, prices, (cost, writer[:at] + writer[at + 1:], numbers)), False)
        self.assertTrue(min(seen.values()) > 20)

    def test_dearer_writers_and_other_values(self):
        chance = chances(164)
        for word in some_words()[::3]:
            cost, _, numbers = plain_paper(word)
            for writer in plain_writers(word)[:50]:
                own = plain_cost(writer, None)
                self.assertIs(is_plain_paper(word, None, (cost, writer, numbers)), own == cost)
                if own != cost:
                    stretched = [number * own // cost for number in numbers]
                    self.assertIs(is_plain_paper(word, None, (own, writer, stretched)), False)
            shift = chance.randint(-FAR, FAR)
            self.assertIs(is_plain_paper(word, None, (cost, plain_paper(word)[1], [number + shift for number in numbers])), True)

    def test_values_of_every_kind(self):
        answered_false(self, lambda value: False, lambda value: is_plain_paper("ab", None, value))
        good = (2, [("ab", 1)], [0, 1, 2])
        self.assertIs(is_plain_paper("ab", None, good), True)
        for value in strange_values():
            for at in range(3):
                changed = good[:at] + (value,) + good[at + 1:]
                self.assertIs(is_plain_paper("ab", None, changed), changed == good)
            self.assertIs(is_plain_paper("ab", None, (2, [value], [0, 1, 2])), False)
            self.assertIs(is_plain_paper("ab", None, (2, [(value, 1)], [0, 1, 2])), False)
            self.assertIs(is_plain_paper("ab", None, (2, [("ab", value)], [0, 1, 2])), isinstance(value, int) and value == 1 and value is not True)
            self.assertIs(is_plain_paper("ab", None, (2, [("ab", 1)], [0, value, 2])), isinstance(value, int) and value == 1 and value is not True)
        for value in [list(good), good + (1,), good[:2], (2, [("ab", 1)], (0, 1, 2)), (2, (("ab", 1),), [0, 1, 2]), (2, [("ab", 1)], [0, 1]), (2, [("ab", 1)], [0, 1, 2, 2])]:
            self.assertIs(is_plain_paper("ab", None, value), False)
        self.assertEqual([is_plain_paper("", None, (0, [], [5])), is_plain_paper("", None, (0, [], [])), is_plain_paper("a", None, (True, [("a", 1)], [0, 1]))],
                         [True, False, False])


class EdgesTest(unittest.TestCase):
    def test_the_empty_word(self):
        self.assertEqual([least_plain(""), plain_front(""), plain_paper("")[:2], len(plain_paper("")[2])], [(0, []), [(0, 0)], (0, []), 1])

    def test_long_words(self):
        for word in long_words():
            cost, writer = least_plain(word)
            self.assertEqual("".join([part * times for part, times in writer]), word)
            self.assertEqual(plain_cost(writer, None), cost)
            self.assertTrue(plain_front(word[:60]))
        self.assertEqual(least_plain("a" * 120), (3, [("a", 120)]))
        self.assertEqual(least_plain("a" * 120, Prices(sign=118, number=2)), (120, [("a" * 120, 1)]))
        self.assertEqual(least_plain("a" * 120, Prices(sign=117, number=2)), (120, [("a", 120)]))
        self.assertEqual(least_plain("ab" * 60, Prices(letter=FAR)), (2 * FAR + 2, [("ab", 60)]))
        letters = "abcdefghijklmnopqrstuvwxyz"
        self.assertEqual(least_plain(letters), (26, [(letters, 1)]))
        self.assertEqual(plain_front("a" * 60), [(1, 1), (60, 0)])
        self.assertEqual(plain_front("a" * 30 + "b" * 30), [(2, 2), (31, 1), (60, 0)])

    def test_ties(self):
        self.assertEqual(least_plain("aab", Prices(sign=0, number=1)), (3, [("aab", 1)]))
        self.assertEqual(least_plain("aa", Prices(sign=0, number=1)), (2, [("a", 2)]))
        self.assertEqual(least_plain("abab", Prices(sign=1, number=1)), (4, [("ab", 2)]))


class WrongInputsTest(unittest.TestCase):
    def test_words(self):
        for call in [least_plain, plain_front, plain_paper, lambda value: is_plain_paper(value, None, None)]:
            refused(self, "InvalidWord", is_word, call)

    def test_prices(self):
        for call in [lambda value: least_plain("ab", value), lambda value: plain_paper("ab", value), lambda value: is_plain_paper("ab", value, None)]:
            refused(self, "InvalidPrices", lambda value: value is None or isinstance(value, Prices), call)
        one, other = ["x"], ["y"]
        told(self, "InvalidWord", one, least_plain, one, other)
        told(self, "InvalidWord", one, plain_paper, one, other)
        told(self, "InvalidWord", one, is_plain_paper, one, other, None)
        self.assertTrue(is_number(least_plain("ab", None)[0], 2, 2))

    def test_by_names_and_objects_stay(self):
        prices = Prices(letter=2)
        found = [least_plain(word="aaa", prices=prices), plain_front(word="aaa"), plain_paper(word="aaa", prices=prices)]
        again = [least_plain("aaa", prices), plain_front("aaa"), plain_paper("aaa", prices)]
        self.assertEqual(found, again)
        found[0][1].append(1), found[1].append(1), found[2][1].append(1), found[2][2].append(1)
        self.assertEqual(again, [least_plain("aaa", prices), plain_front("aaa"), plain_paper("aaa", prices)])
        self.assertIs(is_plain_paper(word="aaa", prices=prices, value=again[2]), True)
        self.assertEqual([prices.letter, prices.sign, prices.unknown, prices.number], [2, 1, 1, 1])


if __name__ == "__main__":
    unittest.main()
