"""[25]: texts that write turns of each other."""

import unittest
from itertools import product

from countscribe.keptorder import is_turn_of
from countscribe.pieces import is_normal
from countscribe.places import how_many_places, open_place
from countscribe.cuts import cut
from countscribe.rings import ring, ring_point, same_ring
from countscribe.texts import OpenText, joined, kept, size, spread, written
from helper import FAR, all_points, chances, refused, run_example, some_text, some_word, told

EXAMPLE = """
from countscribe.rings import ring, ring_point, same_ring
from countscribe.texts import OpenText
one = OpenText(2, [("ab", (0, 1, 0)), ("cb", (0, 0, 1))])
[same_ring(one, OpenText(2, [("ba", (0, 1, 0)), ("bc", (0, 0, 1))])), same_ring(one, OpenText(2, [("ba", (0, 1, 0)), ("cb", (0, 0, 1))]))]
# [True, False]
[same_ring(OpenText(1, [("a", (0, 1)), ("b", (1, 0)), ("a", (0, 2))]), OpenText(1, [("aaa", (0, 1)), ("b", (1, 0))])), ring_point(one, one)]
# [True, [20, 80]]
[same_ring(OpenText(2, [("a", (0, 1, 0)), ("b", (1, 0, 0)), ("a", (0, 1, 0))]), OpenText(2, [("a", (0, 0, 1)), ("b", (1, 0, 0))])), ring(one).pieces()]
# [False, [('ab', (0, 1, 0)), ('cb', (0, 0, 1))]]
[ring(OpenText(1, [("b", (0, 1)), ("a", (1, 0)), ("b", (2, 1))])).pieces(), ring(OpenText(1, [("ba", (3, 1))])).pieces()]
# [[('a', (1, 0)), ('b', (0, 2)), ('bb', (1, 0))], [('ab', (0, 1)), ('ababab', (1, 0))]]
"""


def plain_weight(pieces):
    """The weight as [72] has it."""
    digits = sum([len(bin(number)) - 2 for _, form in pieces for number in form[1:] if number])
    return sum([len(word) for word, _ in pieces]) + digits


def is_plain_turn(one, other):
    return len(one) == len(other) and other in one + one


def texts_of_weight(many, most, signs):
    """All normal lists up to a weight."""
    one = (1,) + (0,) * many
    words = {n: ["".join(row) for row in product(signs, repeat=n)] for n in range(1, most + 1)}
    forms = [(0,) + form for form in product(range(1 << (most - 1)), repeat=many) if any(form)]
    found = []
    rows = [[]]
    for row in rows:
        found.append(row)
        rest = most - plain_weight(row)
        for n in range(1, rest + 1):
            for word in words[n]:
                for form in [one] + [form for form in forms if plain_weight([(word, form)]) <= rest]:
                    if is_normal(many, row + [(word, form)]):
                        rows.append(row + [(word, form)])
    return found


def some_turn(chance, text):
    """A text that writes turns of what a text writes."""
    for _ in range(3):
        one, other = cut(text, open_place(text, chance.randrange(how_many_places(text))))
        text = joined(other, one)
    return text


class ExampleTest(unittest.TestCase):
    def test_example(self):
        run_example(self, EXAMPLE)


class PlainCheckTest(unittest.TestCase):
    def test_same_ring_at_small_points_and_at_ring_point(self):
        chance = chances(70)
        seen = {True: 0, False: 0}
        for _ in range(2500):
            many = chance.choice([0, 1, 1, 2, 3])
            one = some_text(chance, many, 2)
            other = some_turn(chance, one) if chance.random() < 0.3 else some_text(chance, many, 2)
            point = ring_point(one, other)
            far = is_turn_of(kept(one, point), kept(other, point))
            small = all([is_plain_turn(written(one, near), written(other, near)) for near in all_points(many, 4 if many < 3 else 2)])
            self.assertIs(same_ring(one, other), far)
            self.assertIs(same_ring(one, other), small, (one.pieces(), other.pieces()))
            self.assertIs(ring(one) == ring(other), far, (one.pieces(), other.pieces()))
            seen[far] += 1
        self.assertGreater(min(seen.values()), 500)

    def test_ring_is_the_first_of_the_row(self):
        for many, most, signs in [(1, 6, "ab"), (1, 4, "abc"), (2, 5, "ab"), (0, 6, "ab"), (3, 4, "ab")]:
            by_words = {}
            for pieces in texts_of_weight(many, most, signs):
                text = OpenText(many, pieces)
                self.assertEqual(text.pieces(), pieces)
                words = [written(text, point) for point in all_points(many, 4 if many < 2 else 2)]
                key = tuple([min([word[by:] + word[:by] for by in range(len(word) + 1)]) for word in words])
                by_words.setdefault(key, []).append(text)
            for texts in by_words.values():
                classes = []
                for text in texts:
                    for members in classes:
                        if same_ring(members[0], text):
                            members.append(text)
                            break
                    else:
                        classes.append([text])
                for members in classes:
                    best = min([text.pieces() for text in members], key=lambda pieces: (plain_weight(pieces), pieces))
                    for text in members:
                        self.assertEqual(ring(text).pieces(), best, text.pieces())

    def test_turned_texts_have_one_ring(self):
        chance = chances(71)
        for _ in range(600):
            many = chance.randint(0, 3)
            text = some_text(chance, many, 5, chance.choice(["ab", "aab", "abc"]))
            other = some_turn(chance, text)
            self.assertIs(same_ring(text, other), True)
            self.assertEqual(ring(text), ring(other))
            self.assertEqual(ring(ring(text)), ring(text))
            self.assertIs(same_ring(text, ring(text)), True)
            key = (plain_weight(ring(text).pieces()), ring(text).pieces())
            self.assertLessEqual(key, (plain_weight(other.pieces()), other.pieces()))

    def test_texts_with_equal_powers_in_other_orders(self):
        chance = chances(72)
        for _ in range(300):
            words = [some_word(chance, "ab", 1, 3) for _ in range(3)]
            forms = [(0, chance.randint(1, 2)) for _ in range(3)]
            one = OpenText(1, list(zip(words, forms)))
            other = OpenText(1, list(zip(words[::-1], forms[::-1])))
            same = all([is_plain_turn(written(one, near), written(other, near)) for near in all_points(1, 5)])
            self.assertIs(same_ring(one, other), same)
            self.assertIs(ring(one) == ring(other), same)

    def test_the_ring_point(self):
        chance = chances(73)
        for _ in range(300):
            many = chance.randint(0, 3)
            one, other = some_text(chance, many, 4), some_text(chance, many, 4)
            greatest, factor = max(size(one), size(other), 1), max(spread(one), spread(other))
            self.assertEqual(ring_point(one, other), [5 * greatest * (2 * factor) ** j for j in range(many)])


class EdgesTest(unittest.TestCase):
    def test_the_empty_text(self):
        for many in range(4):
            empty = OpenText(many, [])
            self.assertEqual((ring(empty), same_ring(empty, empty)), (empty, True))
            self.assertEqual(ring_point(empty, empty), [5 * 2 ** j for j in range(many)])
            self.assertIs(same_ring(empty, OpenText(many, [("a", (1,) + (0,) * many)])), False)

    def test_texts_without_a_power(self):
        text = OpenText(0, [("bab", (1,))])
        self.assertEqual((ring(text).pieces(), ring_point(text, text)), ([("abb", (1,))], []))
        self.assertEqual(ring(OpenText(3, [("ba", (2, 0, 0, 0))])).pieces(), [("abab", (1, 0, 0, 0))])
        self.assertIs(same_ring(text, OpenText(0, [("abb", (1,))])), True)
        self.assertIs(same_ring(text, OpenText(0, [("aab", (1,))])), False)

    def test_powers_alone(self):
        self.assertEqual(ring(OpenText(1, [("ba", (0, 3))])).pieces(), [("ab", (0, 3))])
        self.assertEqual(ring(OpenText(2, [("ba", (0, 1, 0)), ("bc", (0, 0, 1))])).pieces(), [("ab", (0, 1, 0)), ("cb", (0, 0, 1))])
        self.assertEqual(ring(OpenText(1, [("a", (0, 1)), ("ba", (0, 1))])).pieces(), [("a", (0, 1)), ("ab", (0, 1))])
        self.assertEqual(ring(OpenText(2, [("bba", (0, 0, 1)), ("ba", (0, 1, 0))])).pieces(), [("ab", (0, 1, 0)), ("abb", (0, 0, 1))])

    def test_powers_that_meet_round_the_end(self):
        text = OpenText(2, [("ab", (0, 1, 0)), ("c", (1, 0, 0)), ("ba", (0, 0, 1)), ("b", (1, 0, 0))])
        self.assertEqual(ring(text).pieces(), [("ab", (0, 1, 1)), ("cb", (1, 0, 0))])
        text = OpenText(1, [("a", (0, 1)), ("b", (0, 1)), ("a", (0, 1))])
        self.assertEqual(ring(text).pieces(), [("a", (0, 2)), ("b", (0, 1))])
        text = OpenText(1, [("a", (0, 1)), ("c", (0, 1)), ("b", (0, 1)), ("c", (0, 2)), ("a", (0, 3))])
        self.assertEqual(ring(text).pieces(), [("a", (0, 4)), ("c", (0, 1)), ("b", (0, 1)), ("c", (0, 2))])

    def test_the_lighter_one_stands_first(self):
        text = OpenText(1, [("a", (0, 1)), ("b", (1, 0)), ("a", (0, 3))])
        self.assertEqual(ring(text).pieces(), [("a", (0, 4)), ("b", (1, 0))])
        text = OpenText(1, [("b", (0, 1)), ("a", (2, 0))])
        self.assertEqual(ring(text).pieces(), [("a", (1, 0)), ("b", (0, 1)), ("a", (1, 0))])

    def test_far_numbers(self):
        for far in [10 ** 18, 10 ** 29 - 1]:
            text = OpenText(2, [("ba", (0, far, 1)), ("bc", (0, 0, far))])
            self.assertEqual(ring(text).pieces(), [("ab", (0, far, 1)), ("cb", (0, 0, far))])
            self.assertEqual(ring_point(text, text), [20, 20 * 2 * (far + 1)])
            self.assertIs(same_ring(text, OpenText(2, [("ab", (0, far, 1)), ("cb", (0, 0, far))])), True)
            self.assertIs(same_ring(text, OpenText(2, [("ab", (0, far, 1)), ("cb", (0, 0, far + 1))])), False)

    def test_turns_at_single_points_only(self):
        one = OpenText(2, [("a", (0, 1, 0)), ("b", (1, 0, 0)), ("a", (0, 1, 0))])
        other = OpenText(2, [("a", (0, 0, 1)), ("b", (1, 0, 0))])
        self.assertIs(same_ring(one, other), False)
        self.assertIs(is_turn_of(kept(one, [5, 10]), kept(other, [5, 10])), True)

    def test_results_are_new_and_texts_stay(self):
        one, other = OpenText(1, [("ba", (0, 1))]), OpenText(1, [("ab", (0, 1))])
        ring_point(one, other).append(1)
        ring(one).pieces().clear()
        self.assertEqual((ring_point(one, other), ring(one).pieces(), same_ring(one, other)), ([10], [("ab", (0, 1))], True))
        self.assertEqual((one.pieces(), other.pieces()), ([("ba", (0, 1))], [("ab", (0, 1))]))
        self.assertEqual((same_ring(one=one, other=other), ring_point(one=one, other=other), ring(text=one)), (True, [10], other))


class LimitsTest(unittest.TestCase):
    def test_60_powers_and_sizes_of_400(self):
        one = (1, 0, 0)
        rows = [
            [piece for k in range(60) for piece in [("a" if k % 2 else "b", (0, 1, k + 1)), ("abab", one)]],
            [piece for k in range(60) for piece in [("aaab" if k % 2 else "aaac", (0, FAR // (k + 1), 1)), ("aa", one)]],
            [piece for k in range(60) for piece in [("aab", (0, 1, k)), ("aa", one)]],
            [("a" * k + "b", (0, k, 1)) for k in range(3, 26)],
            [("a" * 5 + "bc"[k % 2], (0, k + 1, 1)) for k in range(60)],
            [("a", (0, 1, 0)), ("a" * 399, one)],
            [("ab", (0, 1, 0)), ("ab" * 199, one)],
            [("a" * 99 + "b", (0, 1, 0)), ("a" * 99 + "b" + "a" * 99, one), ("a" * 98 + "b", (0, 0, 1))],
            [("a" * 398 + "b", (0, 1, 0)), ("a", one)],
            [("ab" * 200, one)],
        ]
        for pieces in rows:
            text = OpenText(2, pieces)
            self.assertLessEqual(size(text), 400)
            one_text, other_text = cut(text, open_place(text, how_many_places(text) // 2))
            turn = joined(other_text, one_text)
            found = ring(text)
            self.assertEqual(ring(turn), found)
            self.assertIs(same_ring(text, turn), True)
            self.assertIs(same_ring(text, found), True)
            self.assertIs(same_ring(text, joined(found, OpenText(2, [("a", one)]))), False)


class WrongInputsTest(unittest.TestCase):
    def test_texts(self):
        text = OpenText(1, [("a", (0, 1))])
        refused(self, "InvalidText", lambda value: isinstance(value, OpenText), ring)
        for call in [same_ring, ring_point]:
            refused(self, "InvalidText", lambda value: isinstance(value, OpenText), lambda value: call(value, text))
            refused(self, "InvalidText", lambda value: isinstance(value, OpenText), lambda value: call(text, value))
            for other in [OpenText(0, []), OpenText(2, []), OpenText(3, [])]:
                told(self, "Unlike", other, call, text, other)
            told(self, "InvalidText", None, call, None, "x")
            told(self, "InvalidText", "x", call, OpenText(2, []), "x")


if __name__ == "__main__":
    unittest.main()
