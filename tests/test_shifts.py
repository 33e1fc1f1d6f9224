"""[24]: texts with a count taken as later, as earlier, or more thinly."""

import unittest

from countscribe.shifts import earlier, first, later, thinned
from countscribe.texts import OpenText, joined, length, replaced, size, unknowns, written
from helper import (
    FAR, all_points, chances, is_number, refused, run_example, some_text, texts_within, told,
)

EXAMPLE = """
from countscribe.shifts import earlier, first, later, thinned
from countscribe.texts import OpenText, written
text = OpenText(1, [("ab", (0, 1)), ("b", (0, 1))])
[later(text, 0, 1).pieces(), earlier(later(text, 0, 1), 0) == text, earlier(text, 0)]
# [[('ab', (0, 1)), ('a', (1, 0)), ('b', (0, 1)), ('bb', (1, 0))], True, None]
[thinned(OpenText(1, [("ab", (0, 6))]), 0, 3).pieces(), thinned(text, 0, 2)]
# [[('ab', (0, 2))], None]
text = OpenText(2, [("ab", (2, 2, 1)), ("c", (1, 0, 1))])
[earlier(text, 0).pieces(), earlier(text, 1).pieces(), earlier(earlier(text, 0), 0)]
# [[('ab', (0, 2, 1)), ('c', (0, 0, 1)), ('c', (1, 0, 0))], [('ab', (0, 2, 1)), ('ab', (1, 0, 0)), ('c', (0, 0, 1))], None]
start, by = first(OpenText(1, [("ab", (3, 1)), ("c", (7, 2))]), 0)
[start.pieces(), by, earlier(OpenText(1, [("a", (5, 10 ** 20))]), 0)]
# [[('ab', (0, 1)), ('c', (0, 2)), ('c', (1, 0))], 3, None]
"""


def moved(point, at, by):
    return point[:at] + [point[at] + by] + point[at + 1:]


class ExampleTest(unittest.TestCase):
    def test_example(self):
        run_example(self, EXAMPLE)


class PlainCheckTest(unittest.TestCase):
    def test_later_writes_what_comes_later(self):
        chance = chances(40)
        for _ in range(400):
            many = chance.randint(1, 3)
            text, at, by = some_text(chance, many, 4), chance.randrange(many), chance.randint(0, 3)
            found = later(text, at, by)
            self.assertEqual(found.many(), many)
            for point in all_points(many, 2):
                self.assertEqual(written(found, point), written(text, moved(point, at, by)))

    def test_earlier_undoes_later(self):
        chance = chances(41)
        for _ in range(1500):
            many = chance.randint(1, 3)
            text, at, by = some_text(chance, many, 4), chance.randrange(many), chance.randint(1, 4)
            found = later(text, at, by)
            start, most = first(found, at)
            if at not in unknowns(text):
                self.assertEqual((found, start, most), (text, text, 0))
                self.assertEqual(earlier(text, at), text)
                continue
            self.assertEqual(later(start, at, most), found)
            self.assertGreaterEqual(most, by)
            self.assertIsNone(earlier(start, at))
            for _ in range(by):
                found = earlier(found, at)
            self.assertEqual(found, text)
            self.assertEqual(first(text, at), (start, most - by))

    def test_earlier_texts_among_all_small_ones(self):
        for many, most in [(1, (3, 2)), (1, (3, 3)), (2, (2, 1, 1))]:
            by_length = texts_within(many, most, "ab")
            for at in range(many):
                starts = {}
                for text in [text for texts in by_length.values() for text in texts]:
                    made = later(text, at, 1)
                    self.assertNotIn(repr(made.pieces()), starts)
                    starts[repr(made.pieces())] = text
                for text in [text for texts in by_length.values() for text in texts]:
                    self.assertEqual(earlier(text, at), starts.get(repr(text.pieces())))

    def test_first_goes_back_as_far_as_earlier_does(self):
        rows = [text for texts in texts_within(1, (4, 2), "ab").values() for text in texts if unknowns(text)]
        for text in rows:
            start, many = text, 0
            while earlier(start, 0) is not None:
                start, many = earlier(start, 0), many + 1
            self.assertEqual(first(text, 0), (start, many))

    def test_texts_with_letters_that_may_or_may_not_go_back(self):
        chance = chances(42)
        seen = {True: 0, False: 0}
        for _ in range(1500):
            many = chance.randint(1, 2)
            at = chance.randrange(many)
            text = joined(later(some_text(chance, many, 2), at, 1), some_text(chance, many, 2))
            found = earlier(text, at)
            seen[found is None] += 1
            if found is not None:
                self.assertEqual(later(found, at, 1), text)
                for point in all_points(many, 2):
                    self.assertEqual(written(found, moved(point, at, 1)), written(text, point))
        self.assertGreater(min(seen.values()), 200)

    def test_thinned(self):
        chance = chances(43)
        seen = {True: 0, False: 0}
        for _ in range(800):
            many = chance.randint(1, 3)
            text, at, by = some_text(chance, many, 3), chance.randrange(many), chance.randint(1, 3)
            found = thinned(text, at, by)
            powers = [form for _, form in text.pieces() if any(form[1:])]
            self.assertIs(found is not None, all([form[at + 1] % by == 0 for form in powers]))
            seen[found is None] += 1
            if found is not None:
                self.assertEqual([word for word, _ in found.pieces()], [word for word, _ in text.pieces()])
                for point in all_points(many, 2):
                    self.assertEqual(written(found, point[:at] + [point[at] * by] + point[at + 1:]), written(text, point))
                forms = [tuple([int(k == j) * (by if j == at + 1 else 1) for k in range(many + 1)]) for j in range(1, many + 1)]
                self.assertEqual(replaced(found, many, forms), text)
        self.assertGreater(min(seen.values()), 100)


class EdgesTest(unittest.TestCase):
    def test_the_empty_text_and_texts_without_the_unknown(self):
        for text in [OpenText(2, []), OpenText(2, [("ab", (3, 0, 0))]), OpenText(2, [("ab", (3, 0, 2))])]:
            self.assertEqual((later(text, 0, 10 ** 39), earlier(text, 0), thinned(text, 0, 10 ** 39)), (text, text, text))
            self.assertEqual(first(text, 0), (text, 0))

    def test_far_numbers(self):
        for far in [10 ** 18, 10 ** 29 - 1]:
            text = OpenText(2, [("ab", (1, far, 1)), ("c", (0, 0, far))])
            self.assertIsNone(earlier(text, 0))
            self.assertEqual(earlier(OpenText(2, [("ab", (1, far, 1))]), 1), OpenText(2, [("ab", (0, far, 1))]))
            self.assertEqual(first(text, 0), (text, 0))
            told(self, "TooLong", 2 * far + 2 + 2 + 1, later, text, 0, 1)
            self.assertEqual(thinned(OpenText(1, [("ab", (1, 6 * far))]), 0, 6).pieces(), [("ab", (0, far)), ("ab", (1, 0))])
            self.assertEqual(thinned(OpenText(1, [("a", (0, far))]), 0, far).pieces(), [("a", (0, 1))])
            self.assertIsNone(thinned(OpenText(1, [("a", (0, far))]), 0, far + 1))

    def test_bounds_of_the_measure(self):
        text = OpenText(1, [("ab", (0, 1)), ("c", (1, 0))])
        self.assertEqual(size(later(text, 0, 998)), 1999)
        told(self, "TooLong", 2001, later, text, 0, 999)
        self.assertEqual(size(later(OpenText(1, [("ab", (0, 1))]), 0, 999)), 2000)
        told(self, "TooLong", 2002, later, OpenText(1, [("ab", (0, 1))]), 0, 1000)
        told(self, "TooLong", 2 * 10 ** 39 + 3, later, text, 0, 10 ** 39)

    def test_first_of_long_texts(self):
        start = OpenText(1, [("ab", (0, 1)), ("c", (0, 1))])
        self.assertEqual(first(later(start, 0, 665), 0), (start, 665))
        start = OpenText(2, [("a", (0, 1, 0)), ("b", (0, 0, 1)), ("a", (0, 1, 3))])
        self.assertEqual(first(later(later(start, 0, 500), 1, 100), 1)[1], 100)
        self.assertEqual(first(later(later(start, 0, 500), 1, 100), 0)[1], 500)

    def test_many_powers(self):
        one = (1, 0)
        pieces = [piece for k in range(330) for piece in [("a" if k % 2 else "b", (0, 1)), ("c", one)]]
        start = OpenText(1, pieces)
        text = later(start, 0, 2)
        self.assertEqual((first(text, 0)[1], earlier(earlier(text, 0), 0) == start), (2, True))
        self.assertIsNone(earlier(start, 0))

    def test_letters_that_only_look_as_if_they_went_back(self):
        # The words could be shortened at every point, but not in one way.
        text = OpenText(1, [("ab", (0, 1)), ("b", (0, 1)), ("ab", (1, 0))])
        self.assertIsNone(earlier(text, 0))
        text = OpenText(1, [("ab", (0, 1)), ("aab", (1, 0))])
        self.assertIsNone(earlier(text, 0))
        self.assertEqual(length(OpenText(1, [("ab", (1, 1))])), (2, 2))

    def test_by_names(self):
        text = OpenText(1, [("a", (1, 1))])
        self.assertEqual(later(text=text, at=0, by=1).pieces(), [("a", (0, 1)), ("aa", (1, 0))])
        self.assertEqual((earlier(text=text, at=0).pieces(), thinned(text=text, at=0, by=1) == text), ([("a", (0, 1))], True))
        self.assertEqual(first(text=text, at=0)[1], 1)

    def test_texts_stay(self):
        text = OpenText(1, [("a", (1, 1))])
        for found in [later(text, 0, 1), earlier(text, 0), thinned(text, 0, 1), first(text, 0)[0]]:
            found.pieces().clear()
        self.assertEqual(text.pieces(), [("a", (0, 1)), ("a", (1, 0))])
        self.assertIsInstance(first(text, 0), tuple)


class WrongInputsTest(unittest.TestCase):
    def test_texts(self):
        for call in [lambda value: later(value, 0, 1), lambda value: earlier(value, 0), lambda value: thinned(value, 0, 1),
                     lambda value: first(value, 0)]:
            refused(self, "InvalidText", lambda value: isinstance(value, OpenText), call)

    def test_unknowns(self):
        for many in range(4):
            text = OpenText(many, [("a", (2,) + (1,) * many)])
            for call in [lambda value: later(text, value, 1), lambda value: earlier(text, value),
                         lambda value: thinned(text, value, 1), lambda value: first(text, value)]:
                refused(self, "InvalidNumber", lambda value: is_number(value, 0, many - 1), call)
                self.assertRaises(ValueError, call, many)

    def test_numbers(self):
        text = OpenText(1, [("a", (2000, 0))])
        refused(self, "InvalidNumber", lambda value: is_number(value, 0, 10 ** 99), lambda value: later(text, 0, value))
        refused(self, "InvalidNumber", lambda value: is_number(value, 1, 10 ** 99), lambda value: thinned(text, 0, value))

    def test_the_first_wrong_argument_is_told(self):
        text = OpenText(1, [])
        told(self, "InvalidText", None, later, None, -1, -2)
        told(self, "InvalidNumber", 1, later, text, 1, -2)
        told(self, "InvalidNumber", True, thinned, text, True, 0)
        told(self, "InvalidText", "x", first, "x", None)
        told(self, "InvalidText", "x", earlier, "x", None)
        told(self, "InvalidText", "x", thinned, "x", 0, 0)


if __name__ == "__main__":
    unittest.main()
