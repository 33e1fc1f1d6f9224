"""[26], [27]: what a text is several times, and what two texts both are some times."""

import unittest

from countscribe.pieces import normal
from countscribe.roots import common_root, greatest_root
from countscribe.texts import OpenText, joined, repeated, written
from countscribe.words import root
from helper import FAR, all_points, chances, refused, run_example, some_pieces, some_text, some_word, texts_within, told

EXAMPLE = """
from countscribe.roots import common_root, greatest_root
from countscribe.texts import OpenText
root, times = greatest_root(OpenText(1, [("a", (0, 1)), ("b", (1, 0)), ("a", (1, 3)), ("b", (1, 0)), ("a", (1, 2))]))
[root.pieces(), times]
# [[('a', (0, 1)), ('b', (1, 0)), ('a', (0, 2)), ('a', (1, 0))], 2]
[greatest_root(OpenText(1, [("ab", (6, 4))]))[1], greatest_root(OpenText(2, [("a", (0, 2, 0)), ("b", (0, 0, 2))]))[1], greatest_root(OpenText(1, [("a", (0, 3000))]))[1]]
# [2, 1, 3000]
one, other = OpenText(1, [("a", (0, 1)), ("b", (1, 0))]), OpenText(1, [("a", (0, 1)), ("b", (1, 0)), ("a", (0, 1)), ("b", (1, 0))])
[common_root(one, other)[0] == one, common_root(one, other)[1:], common_root(one, OpenText(1, [("a", (0, 1))]))]
# [True, (1, 2), None]
[common_root(OpenText(2, [("ab", (1, 1, 0))]), OpenText(2, [("abab", (0, 0, 1))])), common_root(OpenText(0, [("aa", (1,))]), OpenText(0, []))[1:]]
# [('ab', (1, 1, 0), (0, 0, 2)), (2, 0)]
"""


def is_text(value):
    return isinstance(value, OpenText)


def plain_roots(by_length, most):
    """For each small text, as its pieces, all texts that are roots of it several times, by the number of times."""
    found = {}
    for own in by_length:
        times = 2
        while any(own) and all([number * times <= top for number, top in zip(own, most)]):
            for start in by_length[own]:
                found.setdefault(repr(repeated(start, times).pieces()), {}).setdefault(times, []).append(start)
            times += 1
    return found


def commute(one, other):
    """Whether the words change places at all points with small counts."""
    points = all_points(one.many(), 6 if one.many() < 2 else 3)
    return all([written(one, at) + written(other, at) == written(other, at) + written(one, at) for at in points])


class ExampleTest(unittest.TestCase):
    def test_example(self):
        run_example(self, EXAMPLE)


class GreatestRootTest(unittest.TestCase):
    def test_all_small_texts(self):
        several = 0
        for many, most, signs in [(0, (8,), "ab"), (1, (4, 3), "ab"), (1, (2, 4), "ab"), (1, (6, 6), "a"), (2, (2, 2, 2), "ab")]:
            by_length = texts_within(many, most, signs)
            roots = plain_roots(by_length, most)
            for own in by_length:
                for text in by_length[own]:
                    found = roots.get(repr(text.pieces()), {})
                    start, times = greatest_root(text)
                    if not any(own):
                        self.assertEqual((start, times), (text, 1))
                    else:
                        self.assertEqual(times, max(found, default=1), text.pieces())
                        self.assertEqual([start], found.get(times, [text]))
                        several += times > 1
        self.assertGreater(several, 150)

    def test_repeated_texts(self):
        chance = chances(80)
        for _ in range(600):
            text = some_text(chance, chance.randint(0, 3), 4, chance.choice(["ab", "abc", "a"]))
            if not text.pieces():
                continue
            by = chance.randint(1, 6)
            start, times = greatest_root(text)
            self.assertEqual(repeated(start, times), text)
            self.assertEqual(greatest_root(start), (start, 1))
            self.assertEqual(greatest_root(repeated(text, by)), (start, times * by))
            for point in all_points(text.many(), 2):
                self.assertEqual(written(start, point) * times, written(text, point))

    def test_times_are_more_than_powers_only_for_one_word(self):
        chance = chances(81)
        for _ in range(400):
            text = repeated(some_text(chance, 2, 2), chance.randint(1, 4))
            powers = [form for _, form in text.pieces() if any(form[1:])]
            start, times = greatest_root(text)
            if powers and times > len(powers):
                word, form = start.pieces()[0]
                whole = tuple([number * times for number in form[1:]])
                constant = (sum([len(other) for other, _ in text.pieces()[1:]]) // len(word),)
                self.assertEqual(OpenText(2, [(word, constant + whole)]), text)

    def test_texts_without_a_power(self):
        chance = chances(82)
        for _ in range(100):
            word = some_word(chance, "ab", 1, 4) * chance.randint(1, 5)
            part, many = root(word)
            start, times = greatest_root(OpenText(2, [(word, (1, 0, 0))]))
            self.assertEqual((start, times), (OpenText(2, [(part, (1, 0, 0))]), many))

    def test_the_empty_text(self):
        for many in range(4):
            self.assertEqual(greatest_root(OpenText(many, [])), (OpenText(many, []), 1))

    def test_great_numbers(self):
        far = 10 ** 29
        start, times = greatest_root(OpenText(2, [("ab", (0, 6 * far, 4 * far))]))
        self.assertEqual((start.pieces(), times), ([("ab", (0, 3, 2))], 2 * far))
        start, times = greatest_root(OpenText(2, [("ab", (6, 6 * far, 4 * far))]))
        self.assertEqual((start.pieces(), times), ([("ab", (0, 3 * far, 2 * far)), ("ababab", (1, 0, 0))], 2))
        pieces = [("a", (0, far, 1)), ("b", (1, 0, 0)), ("a", (0, 1, far))]
        start, times = greatest_root(OpenText(2, pieces * 7))
        self.assertEqual((start, times), (OpenText(2, pieces), 7))

    def test_near_the_limits(self):
        for count in [60, 59, 48]:
            pieces = [("abb", (0, 1, FAR)), ("abc", (1, 0, 0))]
            text = OpenText(2, pieces * count)
            start, times = greatest_root(text)
            self.assertEqual((start.pieces(), times), (OpenText(2, pieces).pieces(), count))
        odd = [("abb", (0, 1, k)) if n % 2 else ("abc", (1, 0, 0)) for k in range(60) for n in [1, 2]]
        self.assertEqual(greatest_root(OpenText(2, odd)), (OpenText(2, odd), 1))
        word = "a" * 399 + "b"
        self.assertEqual(greatest_root(OpenText(1, [(word, (0, 12))])), (OpenText(1, [(word, (0, 1))]), 12))
        self.assertEqual(greatest_root(OpenText(1, [("ab", (200, 100))])), (OpenText(1, [("ab", (2, 1))]), 100))

    def test_powers_that_begin_within_a_copy(self):
        text = OpenText(1, [("ab", (0, 2)), ("a", (1, 0)), ("b", (1, 0)), ("ab", (3, 4))])
        self.assertEqual(greatest_root(text), (OpenText(1, [("ab", (2, 3))]), 2))
        text = OpenText(1, [("a", (0, 1)), ("b", (0, 1)), ("a", (0, 1)), ("b", (0, 1))])
        self.assertEqual(greatest_root(text), (OpenText(1, [("a", (0, 1)), ("b", (0, 1))]), 2))


class CommonRootTest(unittest.TestCase):
    def test_all_small_pairs(self):
        kinds = {}
        for many, most, signs in [(0, (3,), "ab"), (1, (2, 2), "ab"), (2, (2, 1, 1), "a"), (1, (4, 3), "a")]:
            by_length = texts_within(many, most, signs)
            texts = [text for own in by_length for text in by_length[own]]
            for one in texts:
                for other in texts:
                    kinds.setdefault(self.check(one, other), []).append(one)
        self.assertEqual(sorted(kinds), ["forms", "none", "root"])
        self.assertTrue(all([len(kinds[kind]) > 40 for kind in kinds]))

    def check(self, one, other):
        """Check the common root of two texts, and tell of which kind it is."""
        result = common_root(one, other)
        self.assertIs(result is None, not commute(one, other), (one.pieces(), other.pieces()))
        if result is None:
            return "none"
        self.assertIsInstance(result, tuple)
        if isinstance(result[0], str):
            word, form, other_form = result
            self.assertEqual(root(word), (word, 1))
            self.assertEqual((OpenText(one.many(), [(word, form)]), OpenText(one.many(), [(word, other_form)])), (one, other))
            self.assertNotEqual(greatest_root(one)[0], greatest_root(other)[0])
            self.assertTrue(one.pieces() and other.pieces())
            return "forms"
        start, times, more = result
        self.assertEqual((repeated(start, times), repeated(start, more)), (one, other))
        for text, by in [(one, times), (other, more)]:
            if text.pieces():
                self.assertEqual(greatest_root(text), (start, by))
            else:
                self.assertEqual(by, 0)
        if not one.pieces() and not other.pieces():
            self.assertEqual(result, (one, 0, 0))
        return "root"

    def test_powers_of_one_text(self):
        chance = chances(83)
        for _ in range(300):
            text = some_text(chance, chance.randint(0, 3), 3)
            one, other = repeated(text, chance.randint(0, 4)), repeated(text, chance.randint(0, 4))
            self.assertEqual(self.check(one, other), "root")
        for _ in range(300):
            many = chance.randint(0, 3)
            one, other = some_text(chance, many, 2, "ab"), some_text(chance, many, 2, "ab")
            self.check(one, other)

    def test_one_word_with_two_forms(self):
        self.assertEqual(common_root(OpenText(1, [("abab", (1, 0))]), OpenText(1, [("ab", (0, 1))])), ("ab", (2, 0), (0, 1)))
        self.assertEqual(common_root(OpenText(1, [("ab", (1, 1))]), OpenText(1, [("ab", (2, 1))])), ("ab", (1, 1), (2, 1)))
        self.assertEqual(common_root(OpenText(1, [("ab", (1, 1))]), OpenText(1, [("ab", (3, 3))])), (OpenText(1, [("ab", (1, 1))]), 1, 3))
        self.assertEqual(common_root(OpenText(1, [("ab", (0, FAR))]), OpenText(1, [("abab", (0, FAR + 1))])),
                         (OpenText(1, [("ab", (0, 1))]), FAR, 2 * FAR + 2))
        self.assertEqual(common_root(OpenText(3, [("a", (0, 1, 1, 0))]), OpenText(3, [("a", (0, 0, 0, 1))])), ("a", (0, 1, 1, 0), (0, 0, 0, 1)))

    def test_empty_ones(self):
        none, text = OpenText(1, []), OpenText(1, [("a", (2, 2))])
        self.assertEqual(common_root(none, none), (none, 0, 0))
        self.assertEqual(common_root(none, text), (OpenText(1, [("a", (1, 1))]), 0, 2))
        self.assertEqual(common_root(text, none), (OpenText(1, [("a", (1, 1))]), 2, 0))

    def test_near_the_limits(self):
        pieces = [("abb", (0, 1, FAR)), ("abc", (1, 0, 0))]
        start = OpenText(2, pieces)
        self.assertEqual(common_root(OpenText(2, pieces * 60), OpenText(2, pieces * 45)), (start, 60, 45))
        self.assertIsNone(common_root(OpenText(2, pieces * 60), OpenText(2, pieces * 59 + [("a", (1, 0, 0))])))
        chance = chances(84)
        for _ in range(5):
            pieces = [piece for _ in range(10) for piece in some_pieces(chance, 3, 5, "abc")]
            self.assertEqual(normal(3, pieces), greatest_root(joined(OpenText(3, pieces), OpenText(3, pieces)))[0].pieces())


class WrongInputsTest(unittest.TestCase):
    def test_texts(self):
        text = OpenText(1, [("a", (0, 1))])
        refused(self, "InvalidText", is_text, greatest_root)
        refused(self, "InvalidText", is_text, lambda value: common_root(value, text))
        refused(self, "InvalidText", is_text, lambda value: common_root(text, value))
        for many in [0, 2, 3]:
            other = OpenText(many, [])
            told(self, "Unlike", other, common_root, text, other)

    def test_the_first_wrong_argument_is_told(self):
        one, other = [1], [2]
        told(self, "InvalidText", one, common_root, one, other)

    def test_by_names_and_texts_stay(self):
        text, other = OpenText(1, [("a", (2, 2))]), OpenText(1, [("a", (1, 1))])
        start, times = greatest_root(text=text)
        start.pieces().append("x")
        self.assertEqual((start, times), (other, 2))
        self.assertEqual(common_root(one=text, other=other), (other, 2, 1))
        self.assertEqual([text.pieces(), other.pieces()], [[("a", (0, 2)), ("aa", (1, 0))], [("a", (0, 1)), ("a", (1, 0))]])


if __name__ == "__main__":
    unittest.main()
