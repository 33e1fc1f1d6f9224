"""[33] to [35]: what open texts begin and end with, and what two of them have in common there."""

import unittest

from countscribe.beginnings import begins, common_beginning, common_ending, ends, stripped
from countscribe.cuts import cut
from countscribe.texts import OpenText, joined, length, mirrored, written
from helper import all_points, chances, refused, run_example, some_pieces, some_text, texts_within, told
from plainplaces import all_splits, is_at_most, plain_places

EXAMPLE = """
from countscribe.beginnings import begins, common_beginning, stripped
from countscribe.places import is_open_place
from countscribe.texts import OpenText
both = OpenText(2, [("ab", (0, 1, 0)), ("ac", (0, 0, 1)), ("a", (1, 0, 0))])
other = OpenText(2, [("ab", (0, 2, 0)), ("acb", (1, 0, 0))])
[text.pieces() for text in stripped(both, other)]
# [[('ab', (0, 1, 0)), ('a', (1, 0, 0))], [('ca', (0, 0, 1))], [('ba', (0, 1, 0)), ('cb', (1, 0, 0))], []]
never = OpenText(1, [("ba", (0, 1)), ("a", (0, 1)), ("b", (1, 0))])
[is_open_place(never, (1, 0)), begins(never, OpenText(1, [("b", (1, 0))]))]
# [False, None]
"""
CALLS = [begins, ends, common_beginning, common_ending, stripped]


def is_text(value):
    return isinstance(value, OpenText)


def some_pair(chance):
    """Two texts that often have something in common at both ends."""
    many, signs = chance.randint(0, 3), chance.choice(["a", "ab", "ab", "abc"])
    start, end = some_text(chance, many, 3, signs), some_text(chance, many, 3, signs)
    one, other = some_text(chance, many, 2, signs), some_text(chance, many, 2, signs)
    return joined(joined(start, one), end), joined(joined(start, other), end)


def plain_beginning(one, other):
    """The common beginning by all open places of one of the texts."""
    found = [cut(one, place)[0] for place in plain_places(one)]
    found = [start for start in found if begins(other, start) is not None]
    best = [start for start in found if all([is_at_most(length(less), length(start)) for less in found])]
    return found, best


class ExampleTest(unittest.TestCase):
    def test_example(self):
        run_example(self, EXAMPLE)


class DefinitionTest(unittest.TestCase):
    def small(self):
        """All small texts, with all their splits by the length of the first part."""
        for many, most, signs in [(0, (4,), "ab"), (1, (2, 2), "ab"), (1, (3, 3), "a"), (2, (1, 2, 1), "ab")]:
            by_length = texts_within(many, most, signs)
            splits = all_splits(by_length, most)
            yield [text for own in by_length for text in by_length[own]], splits

    def test_begins_and_ends(self):
        found = 0
        for texts, splits in self.small():
            for text in texts:
                pairs = [pair for own in splits[repr(text.pieces())].values() for pair in own]
                behind = {repr(one.pieces()): other for one, other in pairs}
                ahead = {repr(other.pieces()): one for one, other in pairs}
                for part in texts:
                    self.assertEqual(begins(text, part), behind.get(repr(part.pieces())))
                    self.assertEqual(ends(text, part), ahead.get(repr(part.pieces())))
                    found += repr(part.pieces()) in behind
        self.assertGreater(found, 1000)

    def test_common_beginnings_and_endings(self):
        for texts, splits in self.small():
            heads = {repr(text.pieces()): {repr(one.pieces()): one for own in splits[repr(text.pieces())].values() for one, _ in own}
                     for text in texts}
            tails = {repr(text.pieces()): {repr(other.pieces()): other for own in splits[repr(text.pieces())].values() for _, other in own}
                     for text in texts}
            for one in texts[::3]:
                for other in texts[::2]:
                    self.check(common_beginning(one, other), heads, one, other)
                    self.check(common_ending(one, other), tails, one, other)

    def check(self, result, known, one, other):
        """Check that a result is among what both texts have, and that all of this is within it at the same end."""
        both = [key for key in known[repr(one.pieces())] if key in known[repr(other.pieces())]]
        self.assertIn(repr(result.pieces()), both)
        self.assertEqual(sorted(both), sorted(known[repr(result.pieces())]))


class PlainCheckTest(unittest.TestCase):
    def test_against_all_open_places(self):
        chance = chances(90)
        several = 0
        for _ in range(700):
            one, other = some_pair(chance)
            if len(plain_places(one)) > 150:
                continue
            found, best = plain_beginning(one, other)
            self.assertEqual([common_beginning(one, other)], best)
            self.assertEqual(common_beginning(other, one), best[0])
            several += len(found) > 3
            _, best = plain_beginning(mirrored(one), mirrored(other))
            self.assertEqual([mirrored(common_ending(one, other))], best)
        self.assertGreater(several, 200)

    def test_begins_and_ends_against_all_open_places(self):
        chance = chances(91)
        for _ in range(200):
            one, _ = some_pair(chance)
            for place in plain_places(one)[:40]:
                start, end = cut(one, place)
                self.assertEqual((begins(one, start), ends(one, end)), (end, start))
                other = OpenText(one.many(), [("b", (1,) + (0,) * one.many())] + start.pieces())
                rest = begins(one, other)
                self.assertTrue(rest is None or joined(other, rest) == one)

    def test_written_words(self):
        chance = chances(92)
        for _ in range(400):
            one, other = some_pair(chance)
            start, left, right, end = stripped(one, other)
            for point in all_points(one.many(), 2):
                self.assertEqual(written(start, point) + written(left, point) + written(end, point), written(one, point))
                self.assertEqual(written(start, point) + written(right, point) + written(end, point), written(other, point))
                self.assertIs(written(left, point) == written(right, point), written(one, point) == written(other, point))
            self.assertEqual(start, common_beginning(one, other))
            self.assertEqual(end, common_ending(left_of(start, one), left_of(start, other)))
            nothing = OpenText(one.many(), [])
            self.assertEqual((common_beginning(left, right), common_ending(left, right)), (nothing, nothing))
            self.assertIs(left.pieces() == right.pieces() == [], one == other)

    def test_what_is_put_ahead_stays_ahead(self):
        chance = chances(93)
        for _ in range(400):
            one, other = some_pair(chance)
            text = some_text(chance, one.many(), 3)
            self.assertEqual(common_beginning(joined(text, one), joined(text, other)), joined(text, common_beginning(one, other)))
            self.assertEqual(common_ending(joined(one, text), joined(other, text)), joined(common_ending(one, other), text))


def left_of(start, text):
    """What is left of a text behind a beginning."""
    return begins(text, start)


class EdgesTest(unittest.TestCase):
    def test_the_empty_text(self):
        for many in range(4):
            none, text = OpenText(many, []), OpenText(many, [("ab", (1,) * (many + 1))])
            self.assertEqual([begins(text, none), ends(text, none), begins(text, text), ends(text, text)], [text, text, none, none])
            self.assertEqual([begins(none, text), ends(none, text), begins(none, none), ends(none, none)], [None, None, none, none])
            self.assertEqual([common_beginning(none, text), common_ending(text, none)], [none, none])
            self.assertEqual(stripped(none, text), (none, none, text, none))
            self.assertEqual(stripped(text, text), (text, none, none, none))

    def test_one_begins_the_other(self):
        text, more = OpenText(1, [("ab", (0, 2)), ("c", (1, 0))]), OpenText(1, [("ab", (0, 2)), ("cc", (1, 1))])
        self.assertEqual(common_beginning(text, more), text)
        self.assertEqual(begins(more, text).pieces(), [("c", (0, 2)), ("c", (1, 0))])
        self.assertIsNone(begins(text, more))
        self.assertEqual([part.pieces() for part in stripped(more, text)],
                         [text.pieces(), [("c", (0, 2)), ("c", (1, 0))], [], []])

    def test_texts_without_a_power(self):
        one, other = OpenText(0, [("abcab", (1,))]), OpenText(0, [("abdab", (1,))])
        self.assertEqual([part.pieces() for part in stripped(one, other)],
                         [[("ab", (1,))], [("c", (1,))], [("d", (1,))], [("ab", (1,))]])
        one, other = OpenText(3, [("aaa", (1, 0, 0, 0))]), OpenText(3, [("aaaaa", (1, 0, 0, 0))])
        self.assertEqual([part.pieces() for part in stripped(one, other)], [one.pieces(), [], [("aa", (1, 0, 0, 0))], []])

    def test_a_letter_in_front_that_is_no_beginning(self):
        never = OpenText(1, [("ba", (0, 1)), ("a", (0, 1)), ("b", (1, 0))])
        letter = OpenText(1, [("b", (1, 0))])
        self.assertTrue(all([written(never, [count]).startswith("b") for count in range(9)]))
        self.assertEqual([begins(never, letter), common_beginning(never, letter).pieces()], [None, []])
        self.assertEqual(ends(never, letter).pieces(), [("ba", (0, 1)), ("a", (0, 1))])
        back = mirrored(never)
        self.assertEqual([ends(back, letter), common_ending(back, letter).pieces()], [None, []])

    def test_powers_of_which_a_part_is_common(self):
        one, other = OpenText(2, [("ab", (1, 5, 2))]), OpenText(2, [("ab", (0, 2, 7)), ("a", (1, 0, 0))])
        self.assertEqual([part.pieces() for part in stripped(one, other)],
                         [[("ab", (0, 2, 2)), ("a", (1, 0, 0))], [("ba", (0, 3, 0)), ("b", (1, 0, 0))], [("ba", (0, 0, 5))], []])
        self.assertIsNone(begins(one, OpenText(2, [("a", (0, 1, 0))])))
        self.assertIsNone(begins(one, OpenText(2, [("ab", (0, 6, 0))])))
        self.assertEqual(ends(one, OpenText(2, [("b", (1, 0, 0))])), OpenText(2, [("ab", (0, 5, 2)), ("a", (1, 0, 0))]))

    def test_great_numbers(self):
        far = 10 ** 39
        one, other = OpenText(2, [("ab", (3, far, 7))]), OpenText(2, [("ab", (1, far - 1, far)), ("a", (1, 0, 0))])
        start = common_beginning(one, other)
        self.assertEqual(length(start), (3, 2 * far - 2, 14))
        self.assertEqual(begins(one, start).pieces(), [("ba", (0, 1, 0)), ("bab", (1, 0, 0))])

    def test_large_texts(self):
        pieces = [piece for k in range(600) for piece in [("ab" if k % 2 else "a", (0, 1, k)), ("c", (1, 0, 0))]]
        one, other = OpenText(2, pieces), OpenText(2, pieces[:-1] + [("d", (1, 0, 0))])
        self.assertEqual(stripped(one, one)[0], one)
        start, left, right, end = stripped(one, other)
        self.assertEqual([left.pieces(), right.pieces(), end.pieces()], [[("c", (1, 0, 0))], [("d", (1, 0, 0))], []])
        self.assertEqual(begins(one, start), left)
        self.assertEqual(common_ending(one, OpenText(2, pieces[2:])), OpenText(2, pieces[2:]))
        one, other = OpenText(1, [("a", (1999, 1))]), OpenText(1, [("a", (1998, 2))])
        self.assertEqual(common_beginning(one, other).pieces(), [("a", (0, 1)), ("a" * 1998, (1, 0))])


class WrongInputsTest(unittest.TestCase):
    def test_texts(self):
        text = OpenText(1, [("a", (0, 1))])
        for call in CALLS:
            refused(self, "InvalidText", is_text, lambda value: call(value, text))
            refused(self, "InvalidText", is_text, lambda value: call(text, value))
            for many in [0, 2, 3]:
                other = OpenText(many, [])
                told(self, "Unlike", other, call, text, other)
                told(self, "Unlike", text, call, other, text)

    def test_the_first_wrong_argument_is_told(self):
        for call in CALLS:
            one = [1]
            told(self, "InvalidText", one, call, one, [2])

    def test_by_names_and_texts_stay(self):
        text, other = OpenText(1, [("ab", (0, 2)), ("c", (1, 0))]), OpenText(1, [("ab", (0, 1))])
        self.assertEqual(begins(text=text, start=other), OpenText(1, [("ab", (0, 1)), ("c", (1, 0))]))
        self.assertEqual(ends(text=text, end=OpenText(1, [("c", (1, 0))])), OpenText(1, [("ab", (0, 2))]))
        self.assertEqual([common_beginning(one=text, other=other), common_ending(one=text, other=other).pieces()], [other, []])
        found = stripped(one=text, other=other)
        self.assertIsInstance(found, tuple)
        found[0].pieces().append("x")
        self.assertEqual(found, stripped(text, other))
        self.assertEqual([text.pieces(), other.pieces()], [[("ab", (0, 2)), ("c", (1, 0))], [("ab", (0, 1))]])

    def test_random_pieces_again(self):
        chance = chances(94)
        for _ in range(100):
            many = chance.randint(0, 3)
            pieces, more = some_pieces(chance, many, 4), some_pieces(chance, many, 4)
            one, other = OpenText(many, pieces + more), OpenText(many, pieces)
            self.assertEqual(begins(one, other), OpenText(many, more))


if __name__ == "__main__":
    unittest.main()
