"""[49], [50]: writers in which each power of a text stands once."""

import unittest

from countscribe.costs import vector
from countscribe.lean import is_lean, leaned, placed, places_of, spots
from countscribe.pieces import normal
from countscribe.texts import OpenText, written
from helper import FAR, all_points, answered_false, chances, is_number, refused, run_example, some_pieces, some_text, some_word, strange_values, told
from plainways import (
    all_lean, all_lists, all_placed, bare_word, by_text, is_as_great, is_plain_lean, long_texts, plain_spots, small_texts, vector_of,
)

EXAMPLE = """
from countscribe.lean import is_lean, placed, places_of, spots
from countscribe.texts import OpenText
text, small = OpenText(2, [("ab", (1, 1, 0)), ("b", (0, 0, 1))]), OpenText(1, [("a", (1, 1))])
[spots(text), placed(text, [1, 1], [0, 1]), placed(text, [0, 1], [1, 0]), places_of(text, [("ab", (1, 1, 0)), ("b", (0, 0, 1))])]
# [[('ab', (0, 1, 0), 0, 2), ('b', (0, 0, 1), 1, 2)], [('a', (1, 0, 0)), ('ba', (0, 1, 0)), ('b', (1, 0, 1))], None, ([0, 2], [1, 0])]
is_lean(small, [("a", (0, 1)), ("a", (1, 0))])
# True
"""


def is_text(value):
    return isinstance(value, OpenText)


def power_pieces(pieces):
    return [piece for piece in pieces if any(piece[1][1:])]


def letters_between(pieces):
    """What the pieces without unknowns write ahead of the first power, between two, and behind the last one."""
    found = [""]
    for word, form in pieces:
        if any(form[1:]):
            found.append("")
        else:
            found[-1] += word * form[0]
    return found


class ExampleTest(unittest.TestCase):
    def test_example(self):
        run_example(self, EXAMPLE)


class SpotsTest(unittest.TestCase):
    def test_against_the_definition(self):
        chance = chances(170)
        beyond = 0
        for _ in range(600):
            text = some_text(chance, chance.randint(0, 3), 6, chance.choice(["aaab", "aab", "abc"]))
            found = spots(text)
            self.assertEqual(found, plain_spots(text))
            places = [place for _, _, place, _ in found]
            beyond += any([reach > place for place in places for _, _, own, reach in found if own < place])
        self.assertGreater(beyond, 20)

    def test_edges(self):
        for many in range(4):
            self.assertEqual([spots(OpenText(many, [])), spots(OpenText(many, [("ab", (1,) + (0,) * many)]))], [[], []])
        self.assertEqual(spots(OpenText(1, [("a", (2, FAR))])), [("a", (0, FAR), 0, 2)])
        text = OpenText(1, [("a", (0, 1)), ("a", (1, 0)), ("c", (0, 1)), ("aa", (1, 0))])
        self.assertEqual(spots(text), [("a", (0, 1), 0, 3), ("c", (0, 1), 1, 1)])


class PlacedTest(unittest.TestCase):
    def test_all_places_and_copies(self):
        chance = chances(171)
        counts = {True: 0, False: 0}
        for text in small_texts(chance, 120, 4):
            known = {}
            for starts, copies, pieces in all_placed(text):
                found = placed(text, starts, copies)
                self.assertEqual(found, pieces, (text.pieces(), starts, copies))
                counts[pieces is None] += 1
                if pieces is not None:
                    self.assertEqual(OpenText(text.many(), found), text)
                    self.assertIs(is_lean(text, found), True)
                    self.assertEqual(places_of(text, found), (starts, copies))
                    self.assertNotIn(repr(found), known)
                    known[repr(found)] = True
        self.assertGreater(min(counts.values()), 300)

    def test_written_words(self):
        chance = chances(172)
        for text in small_texts(chance, 60, 4):
            for _, _, pieces in all_placed(text):
                for point in all_points(text.many(), 2) if pieces is not None else []:
                    self.assertEqual(written(OpenText(text.many(), pieces), point), written(text, point))

    def test_edges(self):
        for many in range(4):
            single = (1,) + (0,) * many
            self.assertEqual([placed(OpenText(many, []), [], []), placed(OpenText(many, [("ab", single)]), [], [])], [[], [("ab", single)]])
        text = OpenText(1, [("a", (3, FAR))])
        self.assertEqual(placed(text, [0], [3]), [("a", (3, FAR))])
        self.assertEqual(placed(text, [1], [1]), [("a", (1, 0)), ("a", (1, FAR)), ("a", (1, 0))])
        self.assertEqual(placed(text, [3], [0]), [("aaa", (1, 0)), ("a", (0, FAR))])
        self.assertEqual([placed(text, [4], [0]), placed(text, [3], [1]), placed(text, [0], [4]), placed(text, [10 ** 39], [0]), placed(text, [0], [10 ** 39])], [None] * 5)
        text = OpenText(1, [("c", (1, 0)), ("ab", (0, 1)), ("aba", (1, 0)), ("ab", (0, 2))])
        self.assertEqual(spots(text), [("ab", (0, 1), 1, 4), ("ab", (0, 2), 4, 4)])
        self.assertEqual([placed(text, [0, 4], [0, 0]), placed(text, [1, 1], [1, 0])], [None, None])


class IsLeanTest(unittest.TestCase):
    def test_all_small_lists(self):
        """Of all lists of pieces that write the same, the lean ones, and for each of these its places."""
        for many, letters, constants, numbers, signs in [(1, 3, 3, 2, "ab"), (2, 3, 2, 1, "ab"), (0, 4, 3, 0, "ab"), (1, 4, 2, 1, "a")]:
            groups = by_text(many, all_lists(many, letters, constants, numbers, signs))
            lean, others = 0, 0
            for rows in groups.values():
                text = OpenText(many, rows[0])
                for pieces in rows:
                    right = is_plain_lean(many, text, pieces)
                    self.assertIs(is_lean(text, pieces), right, (text.pieces(), pieces))
                    if right:
                        starts, copies = places_of(text, pieces)
                        found = placed(text, starts, copies)
                        self.assertEqual((power_pieces(found), letters_between(found)), (power_pieces(pieces), letters_between(pieces)))
                        lean += 1
                    else:
                        self.assertIsNone(places_of(text, pieces))
                        others += 1
            self.assertTrue(lean > 20 and others > 20)

    def test_all_lean_writers(self):
        chance = chances(173)
        for text in small_texts(chance, 80, 4):
            found = all_lean(text)
            self.assertEqual(len({repr(pieces) for pieces in found}), len(found))
            for pieces in found:
                self.assertIs(is_lean(text, pieces), True)
                starts, copies = places_of(text, pieces)
                self.assertEqual(power_pieces(placed(text, starts, copies)), power_pieces(pieces))

    def test_what_is_not_lean(self):
        text = OpenText(1, [("ab", (1, 1)), ("cc", (1, 0))])
        good = [("ab", (1, 1)), ("c", (2, 0))]
        self.assertEqual([is_lean(text, good), places_of(text, good)], [True, ([0], [1])])
        for value in [good + [("", (1, 0))], good + [("c", (0, 0))], [("ab", (1, 1)), ("c", (1, 0)), ("c", (1, 0))], good[:1], good[::-1], tuple(good), good[0],
                      [("ab", (0, 1)), ("ab", (1, 0)), ("cc", (1, 0)), ("", (0, 1))], [["ab", (1, 1)], ("c", (2, 0))], [("ab", [1, 1]), ("c", (2, 0))],
                      [("ab", (1, True)), ("c", (2, 0))], [("ab", (1, 1, 0)), ("c", (2, 0, 0))], [("ab", (1, 1)), ("c", (FAR, 0))]]:
            self.assertIs(is_lean(text, value), False, value)
            self.assertIsNone(places_of(text, value))
        double = OpenText(1, [("ab", (0, 4))])
        self.assertEqual([is_lean(double, [("ab", (0, 4))]), is_lean(double, [("abab", (0, 2))]), is_lean(double, [("ab", (0, 1)), ("ab", (0, 3))])], [True, False, False])
        self.assertIs(is_lean(OpenText(1, [("a", (2000, 0))]), [("a", (2000, 0))]), True)
        self.assertIs(is_lean(OpenText(1, []), [("", (1, 0))] * 5001), False)
        self.assertIs(is_lean(OpenText(0, [("aaa", (1,))]), [("a", (2,)), ("a", (1,))]), True)
        self.assertIs(is_lean(OpenText(0, [("aaaa", (1,))]), [("aa", (2,))]), True)

    def test_values_of_every_kind(self):
        for text in [OpenText(1, [("ab", (0, 1))]), OpenText(0, []), OpenText(2, [("b", (1, 0, 0))])]:
            answered_false(self, lambda value: value == [] == text.pieces(), lambda value: is_lean(text, value))
            for value in strange_values():
                if value != [] or text.pieces():
                    self.assertIsNone(places_of(text, value))
                self.assertIs(is_lean(text, [value]), False)
                self.assertIs(is_lean(text, [(value, (0, 1))]), False)
                self.assertIs(is_lean(text, [("ab", value)]), value == (0, 1) and value[1] is not True and text.many() == 1)


class LongTextsTest(unittest.TestCase):
    def test_near_the_limits(self):
        chance = chances(176)
        for text in long_texts(120):
            self.assertEqual([len(spots(text)), len(bare_word(text))], [12, 120])
            self.assertEqual(spots(text), plain_spots(text))
            for _ in range(10):
                starts, copies, at = [], [], 0
                for word, _, place, reach in spots(text):
                    starts.append(chance.choice([max(place, at)] * 3 + [max(place, at, reach - len(word))]))
                    copies.append(chance.randint(0, max(0, reach - starts[-1]) // len(word)) if chance.random() < 0.3 else 0)
                    at = starts[-1] + copies[-1] * len(word)
                found = placed(text, starts, copies)
                right = all([start <= reach for start, (_, _, _, reach) in zip(starts, spots(text))])
                self.assertIs(found is not None, right)
                if right:
                    self.assertEqual([is_lean(text, found), places_of(text, found)], [True, (starts, copies)])
                    self.assertEqual(leaned(3, found), found)
            beyond = [reach + 1 for _, _, _, reach in spots(text)]
            self.assertIsNone(placed(text, beyond, [0] * 12))
            self.assertIsNone(placed(text, [place for _, _, place, _ in spots(text)], [121] * 12))


class LeanedTest(unittest.TestCase):
    def check(self, many, pieces):
        found = leaned(many, pieces)
        text = OpenText(many, pieces)
        self.assertIs(is_lean(text, found), True, pieces)
        self.assertTrue(is_plain_lean(many, text, found))
        self.assertEqual(normal(many, found), text.pieces())
        self.assertTrue(is_as_great(vector_of(many, found), vector_of(many, pieces)), (pieces, found))
        return found

    def test_all_small_lists(self):
        for many, letters, constants, numbers, signs in [(1, 4, 2, 1, "ab"), (2, 3, 1, 1, "ab")]:
            for pieces in all_lists(many, letters, constants, numbers, signs):
                self.check(many, pieces)

    def test_random_lists(self):
        chance = chances(174)
        fewer = 0
        for _ in range(3000):
            many = chance.randint(0, 3)
            pieces = some_pieces(chance, many, 8, chance.choice(["a", "ab", "ab", "aab"]))
            found = self.check(many, pieces)
            fewer += len(power_pieces(found)) < len(power_pieces(pieces))
        self.assertGreater(fewer, 300)

    def test_powers_that_belong_together(self):
        chance = chances(175)
        for _ in range(400):
            word = some_word(chance, "ab", 1, 3)
            pieces, at = [], 0
            for _ in range(chance.randint(1, 6)):
                by = chance.randint(0, 2 * len(word))
                pieces.append(((word * 4)[at:at + by], (1, 0)))
                at = (at + by) % len(word)
                pieces.append((word[at:] + word[:at], (chance.randint(0, 2), chance.randint(0, 2))))
            self.check(1, pieces)
        self.assertEqual(vector(1, leaned(1, [("ab", (1, 1)), ("ab", (1, 0)), ("ab", (2, 3))])), (6, 2, 1, 2))

    def test_edges(self):
        self.assertEqual([leaned(many, []) for many in range(4)], [[], [], [], []])
        self.assertEqual(leaned(1, [("", (1, 1)), ("a", (0, 0))]), [])
        self.check(3, [("abab", (7, 0, 10 ** 18, 2)), ("a", (1, 0, 0, 0)), ("ba", (0, FAR, 0, 0))])
        self.check(1, [("a", (999, 1)), ("a", (998, 1))])
        self.check(1, [("a", (1, 0))] * 2000)
        self.check(1, [("a", (0, 1))] * 2000)
        self.check(0, [("ab", (1000,))])

    def test_wrong_inputs(self):
        refused(self, "InvalidNumber", lambda value: is_number(value, 0, 3), lambda value: leaned(value, None))
        refused(self, "InvalidPieces", lambda value: isinstance(value, list), lambda value: leaned(1, value))
        for item in strange_values():
            if item not in [("a", (0, 1)), ("", (0, 0))]:
                told(self, "InvalidPiece", item, leaned, 1, [("a", (0, 1)), item, None])
        pieces = [("a", (0, 1))] * 5001
        told(self, "InvalidPieces", pieces, leaned, 1, pieces)
        told(self, "TooLong", 2001, leaned, 1, [("a", (2000, 1))])
        told(self, "InvalidNumber", -1, leaned, -1, None)


class WrongInputsTest(unittest.TestCase):
    def test_texts(self):
        for call in [spots, lambda value: placed(value, [], []), lambda value: is_lean(value, []), lambda value: places_of(value, [])]:
            refused(self, "InvalidText", is_text, call)

    def test_places(self):
        text = OpenText(1, [("ab", (0, 1))])
        for call in [lambda value: placed(text, value, [0]), lambda value: placed(text, [0], value)]:
            refused(self, "InvalidPlaces", lambda value: isinstance(value, list) and len(value) == 1 and is_number(value[0], 0, 10 ** 99), call)
            for value in [[], [0, 0], [-1], [True], (0,), [None]]:
                told(self, "InvalidPlaces", value, call, value)
        one, other = [-1], [None]
        told(self, "InvalidPlaces", one, placed, text, one, other)
        told(self, "InvalidPlaces", other, placed, text, [9], other)
        told(self, "InvalidText", None, placed, None, one, other)
        told(self, "InvalidText", None, is_lean, None, None)
        told(self, "InvalidText", None, places_of, None, None)

    def test_by_names_and_lists_stay(self):
        text = OpenText(1, [("ab", (1, 1))])
        starts, copies = [0], [1]
        found = placed(text=text, starts=starts, copies=copies)
        given = list(found)
        self.assertEqual([spots(text=text), is_lean(text=text, value=given), places_of(text=text, value=given)], [[("ab", (0, 1), 0, 2)], True, ([0], [1])])
        found.append(1), spots(text).append(1), places_of(text, given)[0].append(1)
        pieces = [("ab", (1, 1)), ("", (0, 0))]
        leaned(many=1, pieces=pieces).append(1)
        self.assertEqual(pieces, [("ab", (1, 1)), ("", (0, 0))])
        self.assertEqual([starts, copies, given, placed(text, starts, copies), text.pieces()],
                         [[0], [1], [("ab", (1, 1))], [("ab", (1, 1))], [("ab", (0, 1)), ("ab", (1, 0))]])
        self.assertEqual(bare_word(text), "ab")


if __name__ == "__main__":
    unittest.main()
