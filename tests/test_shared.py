"""[54] to [56]: the words that two texts for one unknown share."""

import unittest
from math import gcd

from countscribe.errors import TooLong
from countscribe.keptorder import same_kept
from countscribe.shared import agreeing, shared, shared_text
from countscribe.texts import OpenText, kept, length, replaced, size
from helper import FAR, chances, refused, run_example, some_pieces, some_word, told, value_at, word_at

EXAMPLE = """
from countscribe.shared import agreeing, shared, shared_text
from countscribe.texts import OpenText
one = OpenText(1, [("a", (0, 1)), ("baa", (1, 0))])
other = OpenText(1, [("aab", (1, 0)), ("a", (0, 1))])
[agreeing(one, other), agreeing(one, one), shared(one, other)]
# [[2], None, ('pairs', [(2, 2)])]
[shared(OpenText(1, [("a", (0, 4))]), OpenText(1, [("a", (2, 6))])), shared(OpenText(1, [("ab", (0, 1))]), OpenText(1, [("ba", (0, 1))]))]
# [('line', (2, 1), (3, 2)), ('pairs', [(0, 0)])]
shared_text(OpenText(1, [("a", (0, 4))]), OpenText(1, [("a", (2, 6))])).pieces()
# [('a', (0, 12)), ('aaaaaaaa', (1, 0))]
"""
BOUND = 14


def has_power(text):
    return any([form[1] for _, form in text.pieces()])


def powers(text):
    return len([form for _, form in text.pieces() if form[1]])


def along(text):
    """What a text for one unknown writes at the first counts."""
    return [word_at(text.pieces(), [count]) for count in range(BOUND)]


SEVERAL = [
    ([0, 1], [("ab", (0, 1))], [("a", (0, 1)), ("b", (0, 1))]),
    ([0, 2], [("aabb", (0, 1))], [("a", (0, 1)), ("b", (0, 1)), ("a", (0, 1)), ("b", (0, 1))]),
    ([0, 3], [("a", (0, 1)), ("baaa", (0, 1))], [("aaab", (0, 1)), ("a", (0, 1))]),
    ([1, 2], [("ab", (1, 0)), ("aba", (0, 1))], [("ab", (0, 1)), ("a", (0, 1)), ("ba", (1, 0))]),
    ([0, 1, 2], [("ababa", (0, 1))], [("ab", (0, 1)), ("a", (0, 1)), ("ba", (0, 1))]),
]


def near_pairs():
    """Texts that agree at some counts: powers written out at one count in their stead, or moved past others."""
    chance = chances(190)
    pairs = []
    for _ in range(250):
        pieces = some_pieces(chance, 1, 5, chance.choice(["a", "ab", "aab"]))
        changed = []
        count = chance.randint(0, 4)
        for word, form in pieces:
            how = chance.randrange(5)
            if how == 0:
                changed.append((word, (value_at(form, [count]), 0)))
            elif how == 1:
                changed.append((word, (value_at(form, [count]) // 2, 0)))
                changed.append((word, (value_at(form, [count]) - value_at(form, [count]) // 2, 0)))
            elif how == 2:
                changed.extend([(word, (form[0], 0)), (word, (0, form[1]))])
            else:
                changed.append((word, form))
        pairs.append((OpenText(1, pieces), OpenText(1, changed)))
    for _ in range(150):
        # Powers of one letter ahead of another letter and behind it.
        rows = []
        for _ in range(2):
            rows.append([(letter, (chance.randint(0, 3), chance.randint(0, 2))) for letter in "abaaba"[:chance.randint(3, 6)]])
        pairs.append((OpenText(1, rows[0]), OpenText(1, rows[1])))
    for _ in range(100):
        # Turns of each other.
        word = some_word(chance, "ab", 2, 4)
        by = chance.randint(0, len(word))
        form = (chance.randint(0, 2), chance.randint(1, 3))
        pairs.append((OpenText(1, [(word, form)]), OpenText(1, [(word[by:] + word[:by], form)])))
        pairs.append((OpenText(1, [(word, form), (word[:by], (1, 0))]), OpenText(1, [(word[:by], (1, 0)), (word[by:] + word[:by], (form[0], chance.randint(1, 3)))])))
    for _, left, right in SEVERAL:
        for _ in range(12):
            # What both begin and end with changes nothing.
            ahead, behind = some_pieces(chance, 1, 2), some_pieces(chance, 1, 2)
            pairs.append((OpenText(1, ahead + left + behind), OpenText(1, ahead + right + behind)))
    return pairs


PAIRS = near_pairs()


class ExampleTest(unittest.TestCase):
    def test_example(self):
        run_example(self, EXAMPLE)


class AgreeingTest(unittest.TestCase):
    def test_against_the_words(self):
        found = {}
        for one, other in PAIRS:
            counts = agreeing(one, other)
            words = [count for count, (a, b) in enumerate(zip(along(one), along(other))) if a == b]
            if one == other:
                self.assertIsNone(counts)
                self.assertEqual(words, list(range(BOUND)))
                continue
            self.assertEqual([count for count in counts if count < BOUND], words, (one.pieces(), other.pieces()))
            self.assertEqual(agreeing(other, one), counts)
            self.assertEqual(counts, sorted(set(counts)))
            self.assertLessEqual(len(counts), powers(one) + powers(other))
            self.assertTrue(all([count <= max(size(one), size(other)) for count in counts]))
            found[min(len(counts), 3)] = found.get(min(len(counts), 3), 0) + 1
        self.assertTrue(min([found.get(many, 0) for many in range(4)]) >= 12, found)

    def test_several_counts(self):
        for counts, left, right in SEVERAL:
            self.assertEqual(agreeing(OpenText(1, left), OpenText(1, right)), counts)
            self.assertEqual(shared(OpenText(1, left), OpenText(1, right))[1], [(count, count) for count in counts])
        one = OpenText(1, [("a", (0, 2)), ("b", (1, 0)), ("a", (3, 1))])
        self.assertEqual(agreeing(one, OpenText(1, [("a", (3, 1)), ("b", (1, 0)), ("a", (0, 2))])), [3])

    def test_edges(self):
        self.assertEqual(agreeing(OpenText(1, [("a", (7, 0))]), OpenText(1, [("a", (0, 1))])), [7])
        self.assertEqual(agreeing(OpenText(1, [("a", (400, 0))]), OpenText(1, [("a", (0, 1))])), [400])
        self.assertEqual(agreeing(OpenText(1, [("ab", (0, 1))]), OpenText(1, [("ba", (0, 1))])), [0])
        self.assertEqual(agreeing(OpenText(1, []), OpenText(1, [("ba", (0, FAR))])), [0])
        self.assertEqual(agreeing(OpenText(1, []), OpenText(1, [("ba", (1, 0))])), [])
        self.assertIsNone(agreeing(OpenText(1, []), OpenText(1, [("", (1, 0))])))


class SharedTest(unittest.TestCase):
    def check(self, one, other):
        """What is told of the pairs is right for all counts up to a bound, and for what is told beyond it."""
        left, right = along(one), along(other)
        words = [(n, m) for n in range(BOUND) for m in range(BOUND) if left[n] == right[m]]
        try:
            found = shared(one, other)
        except TooLong:
            self.assertTrue(size(one) > 20 or size(other) > 20)
            return "long"
        if found[0] == "pairs":
            self.assertIsNone(shared_text(one, other))
            pairs = found[1]
            self.assertEqual([pair for pair in pairs if max(pair) < BOUND], words, (one.pieces(), other.pieces()))
            self.assertEqual(pairs, sorted(pairs))
            self.assertLessEqual(len(pairs), powers(one) + powers(other))
            for n, m in pairs:
                self.assertTrue(same_kept(kept(one, [n]), kept(other, [m])))
            self.assertEqual(shared(other, one), ("pairs", [(m, n) for n, m in pairs]))
            return "pairs"
        kind, (n, m), (by, to) = found
        self.assertEqual(kind, "line")
        self.assertEqual([pair for pair in [(n + by * s, m + to * s) for s in range(BOUND)] if max(pair) < BOUND], words)
        self.assertEqual(shared(other, one), ("line", (m, n), (to, by)))
        text = shared_text(one, other)
        self.assertEqual(text, replaced(one, 1, [(n, by)]))
        self.assertEqual(text, replaced(other, 1, [(m, to)]))
        for s in range(4):
            word = word_at(text.pieces(), [s])
            self.assertEqual([word, word], [word_at(one.pieces(), [n + by * s]), word_at(other.pieces(), [m + to * s])])
        return "line"

    def test_against_the_words(self):
        found = {"pairs": 0, "line": 0, "long": 0}
        for one, other in PAIRS:
            if has_power(one) and has_power(other):
                found[self.check(one, other)] += 1
        self.assertTrue(found["pairs"] > 100 and found["line"] > 50, found)

    def test_texts_along_other_counts(self):
        chance = chances(191)
        lines = 0
        for _ in range(300):
            text = OpenText(1, some_pieces(chance, 1, 4))
            one, other = [replaced(text, 1, [(chance.randint(0, 3), chance.randint(1, 4))]) for _ in range(2)]
            if has_power(text):
                self.check(one, other)
                lines += shared(one, other)[0] == "line"
        self.assertGreater(lines, 80)

    def test_one_letter(self):
        chance = chances(192)
        for _ in range(500):
            one, other = [OpenText(1, [("a", (chance.randint(0, 9), chance.randint(1, 9)))]) for _ in range(2)]
            self.check(one, other)

    def test_several_pairs(self):
        one = OpenText(1, [("a", (0, 1)), ("b", (1, 0)), ("a", (0, 1)), ("b", (1, 0)), ("a", (3, 0))])
        self.assertEqual(shared(one, one), ("line", (0, 0), (1, 1)))
        other = OpenText(1, [("a", (2, 0)), ("b", (1, 0)), ("a", (0, 2)), ("b", (1, 0)), ("a", (3, 0))])
        self.assertEqual(shared(one, other), ("pairs", [(2, 1)]))
        # What stands behind the line of equal lengths: 2 n = m + 1.
        other = OpenText(1, [("a", (0, 1)), ("b", (1, 0)), ("a", (1, 0))])
        self.assertEqual(shared(OpenText(1, [("a", (0, 1)), ("b", (1, 0)), ("a", (0, 1))]), other), ("pairs", [(1, 1)]))

    def test_great_steps(self):
        one, other = OpenText(1, [("a", (0, 10 ** 18))]), OpenText(1, [("a", (0, FAR + 1))])
        self.assertEqual(shared(one, other), ("line", (0, 0), (FAR + 1, 10 ** 18)))
        self.assertEqual(shared_text(one, other).pieces(), [("a", (0, 10 ** 18 * (FAR + 1)))])
        one, other = OpenText(1, [("a", (7, FAR))]), OpenText(1, [("a", (5, FAR))])
        self.assertEqual([shared(one, other), shared_text(one, other)], [("pairs", []), None])
        one, other = OpenText(1, [("ab", (0, FAR))]), OpenText(1, [("ba", (0, FAR + 1))])
        self.assertEqual(shared(one, other), ("pairs", [(0, 0)]))
        one, other = OpenText(1, [("ab", (1, FAR)), ("a", (1, 0))]), OpenText(1, [("a", (1, 0)), ("ba", (1, 2 * FAR))])
        self.assertEqual(shared(one, other), ("line", (0, 0), (2, 1)))

    def test_too_long_for_the_one_or_the_other(self):
        one, other = OpenText(1, [("ab", (0, 1)), ("c", (1, 0))]), OpenText(1, [("a", (1999, 2))])
        for call in [shared, shared_text]:
            told(self, "TooLong", 2001, call, one, other)
            told(self, "TooLong", 2001, call, other, one)
        self.assertEqual(shared(one, OpenText(1, [("a", (1997, 2))])), ("pairs", []))
        self.assertEqual(shared(OpenText(1, [("a", (1997, 2))]), one), ("pairs", []))
        # Both are too long: the first one is told.
        one, other = OpenText(1, [("ab", (2, FAR))]), OpenText(1, [("abc", (0, FAR + 1))])
        by, to = shared_start(one, other)
        for left, right, number in [(one, other, by), (other, one, to)]:
            try:
                replaced(left, 1, [(number, 1)])
                self.fail("not too long")
            except TooLong as error:
                told(self, "TooLong", error.value, shared, left, right)
                told(self, "TooLong", error.value, shared_text, left, right)

    def test_no_lengths_that_are_equal_are_never_too_long(self):
        one, other = OpenText(1, [("ab", (2, FAR))]), OpenText(1, [("ab", (1, FAR)), ("c", (1, 0))])
        self.assertEqual(shared(one, other), ("pairs", []))


def shared_start(one, other):
    """The least counts at which both write equally many letters, found with what Python has for it."""
    (c, a), (d, b) = length(one), length(other)
    g = gcd(a, b)
    n = (d - c) // g * pow(a // g, -1, b // g) % (b // g)
    while c + a * n < d:
        n += b // g
    return n, (c + a * n - d) // b


class NearTheLimitsTest(unittest.TestCase):
    def test_60_powers_and_400_letters(self):
        chance = chances(193)
        for letters in ["ab", "aab", "a"]:
            pieces = []
            for _ in range(60):
                pieces.append((some_word(chance, letters, 2, 3), (0, chance.randint(1, 9))))
                pieces.append((some_word(chance, "abc", 3, 4), (1, 0)))
            one = OpenText(1, pieces)
            other = OpenText(1, pieces[:-1] + [(pieces[-1][0][::-1], (1, 0))])
            self.assertTrue(size(one) <= 450)
            self.assertEqual(shared(one, one), ("line", (0, 0), (1, 1)))
            for left, right in [(one, other), (OpenText(1, pieces + [("ab", (1, 0))]), OpenText(1, pieces + [("ba", (1, 0))]))]:
                if left != right:
                    self.assertEqual([agreeing(left, right), shared(left, right)], [[], ("pairs", [])])
        left = OpenText(1, [("ab", (0, 7)), ("b", (1, 0))] * 59 + [("ab", (0, 7)), ("abb", (1, 0))])
        right = OpenText(1, [("ab", (14, 7)), ("b", (1, 0))] * 59 + [("ab", (14, 7)), ("bba", (1, 0))])
        self.assertEqual(shared(left, right), ("pairs", []))
        right = OpenText(1, [("ab", (14, 7)), ("b", (1, 0))] * 59 + [("ab", (14, 7)), ("abb", (1, 0))])
        self.assertEqual(shared(left, right), ("line", (2, 0), (1, 1)))

    def test_many_counts(self):
        """Texts of which each power is written out at another count agree there, if what is behind makes good for it."""
        pieces = [("a", (0, 1)), ("b", (1, 0))] * 30
        for count in [0, 1, 17]:
            written = [("a", (count, 0)), ("b", (1, 0))] * 29
            other = OpenText(1, written + [("a", (0, 1)), ("b", (1, 0))])
            self.assertEqual(agreeing(OpenText(1, pieces), other), [count])
            self.assertEqual(shared(OpenText(1, pieces), other), ("pairs", [(count, count)]))


def is_along(value):
    return isinstance(value, OpenText) and value.many() == 1


class WrongInputsTest(unittest.TestCase):
    def test_texts(self):
        text = OpenText(1, [("a", (0, 1))])
        for call in [lambda value: agreeing(value, text), lambda value: agreeing(text, value)]:
            refused(self, "InvalidText", is_along, call)
        for call in [shared, shared_text]:
            refused(self, "InvalidText", lambda value: is_along(value) and has_power(value), lambda value: call(value, text))
            refused(self, "InvalidText", lambda value: is_along(value) and has_power(value), lambda value: call(text, value))
        wrong = [OpenText(0, []), OpenText(2, [("a", (0, 1, 1))]), OpenText(3, [("a", (0, 1, 1, 1))])]
        fixed = [OpenText(1, []), OpenText(1, [("ab", (1, 0))])]
        for value in wrong + fixed:
            for call in [shared, shared_text]:
                told(self, "InvalidText", value, call, value, None)
                told(self, "InvalidText", value, call, text, value)
        for value in wrong:
            told(self, "InvalidText", value, agreeing, value, None)
            told(self, "InvalidText", value, agreeing, text, value)
        self.assertEqual(agreeing(fixed[0], fixed[1]), [])

    def test_by_names_and_lists_belong_to_the_caller(self):
        one, other = OpenText(1, [("a", (0, 1)), ("baa", (1, 0))]), OpenText(1, [("aab", (1, 0)), ("a", (0, 1))])
        for _ in range(2):
            self.assertEqual([agreeing(one=one, other=other), shared(one=one, other=other), shared_text(one=one, other=one) == one], [[2], ("pairs", [(2, 2)]), True])
            agreeing(one, other).append(1), shared(one, other)[1].append(1)
        self.assertEqual([one.pieces(), other.pieces()], [[("a", (0, 1)), ("baa", (1, 0))], [("aab", (1, 0)), ("a", (0, 1))]])


if __name__ == "__main__":
    unittest.main()
