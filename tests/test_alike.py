"""[22] and [23]: what parts two open texts."""

import unittest

from countscribe.alike import decisive, parting
from countscribe.keptorder import same_kept
from countscribe.texts import OpenText, joined, kept, size, spread, written
from helper import FAR, all_points, chances, refused, run_example, some_text, texts_within, told

EXAMPLE = """
from countscribe.alike import decisive, parting
from countscribe.texts import OpenText
one = OpenText(2, [("a", (0, 1, 0)), ("b", (1, 0, 0)), ("a", (0, 0, 1))])
other = OpenText(2, [("a", (0, 0, 1)), ("b", (1, 0, 0)), ("a", (0, 1, 0))])
[decisive(one, other), parting(one, other), parting(one, one)]
# [[4, 8], [0, 1], None]
parting(OpenText(1, [("ab", (0, 1)), ("ba", (0, 1))]), OpenText(1, [("ab", (0, 1)), ("ba", (1, 0))]))
# [0]
"""


def how_many_powers(text):
    return len([form for _, form in text.pieces() if any(form[1:])])


def product_of(point):
    made = 1
    for count in point:
        made *= count + 1
    return made


def least_parting(one, other, most):
    """The least point up to some counts at which the words differ, by a look at all of them."""
    for point in sorted(all_points(one.many(), most), key=lambda point: (sum(point), point)):
        if written(one, point) != written(other, point):
            return point
    return None


class ExampleTest(unittest.TestCase):
    def test_example(self):
        run_example(self, EXAMPLE)


class PlainCheckTest(unittest.TestCase):
    def test_parting_and_decisive(self):
        chance = chances(30)
        parted = 0
        for _ in range(2000):
            many = chance.choice([0, 1, 1, 2, 3])
            one, other = some_text(chance, many, 2, "aab"), some_text(chance, many, 2, "aab")
            if chance.random() < 0.5:
                front = some_text(chance, many, 1)
                one, other = joined(front, one), joined(front, other)
            found = parting(one, other)
            self.assertEqual(found, least_parting(one, other, 4 if many < 3 else 2))
            self.assertIs(found is None, one == other)
            point = decisive(one, other)
            self.assertIs(same_kept(kept(one, point), kept(other, point)), one == other)
            if found is not None:
                self.assertLessEqual(product_of(found), 1 + how_many_powers(one) + how_many_powers(other))
                parted += any(found)
        self.assertGreater(parted, 200)

    def test_all_pairs_of_small_texts(self):
        rows = [text for texts in texts_within(1, (1, 2), "ab").values() for text in texts]
        for one in rows:
            for other in rows:
                self.assertEqual(parting(one, other), least_parting(one, other, 3))
                point = decisive(one, other)
                self.assertIs(same_kept(kept(one, point), kept(other, point)), one == other)
        rows = [text for texts in texts_within(2, (1, 1, 1), "ab").values() for text in texts]
        for one in rows:
            for other in rows:
                self.assertEqual(parting(one, other), least_parting(one, other, 2))

    def test_the_decisive_point(self):
        chance = chances(31)
        for _ in range(300):
            many = chance.randint(0, 3)
            one, other = some_text(chance, many, 4), some_text(chance, many, 4)
            point = decisive(one, other)
            greatest, factor = max(size(one), size(other)), max(spread(one), spread(other))
            self.assertEqual(point, [(greatest + 1) * factor ** j for j in range(many)])


class EdgesTest(unittest.TestCase):
    def test_no_unknowns(self):
        one, other = OpenText(0, [("ab", (1,))]), OpenText(0, [("b", (1,))])
        self.assertEqual((parting(one, other), parting(one, one), decisive(one, other)), ([], None, []))

    def test_the_empty_text(self):
        for many in range(4):
            empty = OpenText(many, [])
            self.assertEqual((parting(empty, empty), decisive(empty, empty)), (None, [1] * many))
            if many:
                power = OpenText(many, [("a", (0,) * many + (1,))])
                self.assertEqual(parting(empty, power), [0] * (many - 1) + [1])
                self.assertEqual(parting(power, empty), [0] * (many - 1) + [1])

    def test_far_numbers(self):
        for far in [10 ** 18, 10 ** 29 - 1]:
            one, other = OpenText(1, [("a", (0, far))]), OpenText(1, [("a", (0, far + 1))])
            self.assertEqual((parting(one, other), decisive(one, other)), ([1], [2]))
            one = OpenText(2, [("ab", (0, far, 1)), ("a", (1, 0, 0))])
            other = OpenText(2, [("ab", (0, far, 1)), ("b", (1, 0, 0))])
            self.assertEqual((parting(one, other), decisive(one, other)), ([0, 0], [4, 4 * (far + 1)]))
            self.assertIsNone(parting(one, OpenText(2, [("a", (1, 0, 0)), ("ba", (0, far, 1))])))

    def test_a_point_that_is_not_the_first(self):
        one = OpenText(1, [("a", (0, 1)), ("b", (0, 1))])
        other = OpenText(1, [("ab", (0, 1))])
        self.assertEqual(parting(one, other), [2])
        one = OpenText(2, [("a", (0, 1, 0)), ("b", (0, 0, 1))])
        other = OpenText(2, [("b", (0, 0, 1)), ("a", (0, 1, 0))])
        self.assertEqual(parting(one, other), [1, 1])

    def test_results_are_new(self):
        one, other = OpenText(1, [("a", (0, 1))]), OpenText(1, [("b", (0, 1))])
        for call in [decisive, parting]:
            found = call(one, other)
            found.append(5)
            self.assertEqual(call(one, other), found[:-1])
        self.assertEqual((one.pieces(), other.pieces()), ([("a", (0, 1))], [("b", (0, 1))]))

    def test_by_names(self):
        text = OpenText(1, [("a", (0, 1))])
        self.assertEqual((decisive(one=text, other=text), parting(one=text, other=text)), ([2], None))


class LimitsTest(unittest.TestCase):
    def test_60_powers(self):
        for many in range(1, 4):
            forms = [(0,) + tuple([FAR // (k + 1) if k == at % many else at for k in range(many)]) for at in range(30)]
            pieces = []
            for at, form in enumerate(forms):
                pieces.extend([("ab" if at % 2 else "aab", form), ("ca", (1,) + (0,) * many)])
            one = OpenText(many, pieces)
            other = OpenText(many, pieces[:-2] + [("aab", forms[29])] + pieces[-1:])
            self.assertEqual(how_many_powers(one) + how_many_powers(other), 60)
            self.assertIsNone(parting(one, OpenText(many, pieces)))
            self.assertEqual(sum(parting(one, other)), 1)

    def test_texts_that_are_the_same_at_many_points(self):
        one = (1, 0, 0, 0)
        pieces = [("a", (0, 1, 0, 0)), ("b", (0, 0, 1, 0)), ("c", (0, 0, 0, 1)), ("d", one)] * 10
        left = pieces + [("a", (0, 1, 0, 0)), ("b", (0, 0, 1, 0)), ("c", (0, 0, 0, 1))]
        right = pieces + [("a", (0, 1, 0, 0)), ("c", (0, 0, 0, 1)), ("b", (0, 0, 1, 0))]
        self.assertEqual(parting(OpenText(3, left[-27:]), OpenText(3, right[-27:])), [0, 1, 1])

    def test_long_texts(self):
        one = OpenText(1, [("ab" * 499 + "a", (0, FAR)), ("b", (900, 0)), ("c", (0, 1))])
        other = OpenText(1, [("ab" * 499 + "a", (0, FAR)), ("b", (900, 0)), ("c", (0, 2))])
        self.assertEqual((parting(one, other), decisive(one, other)), ([1], [1901]))


class WrongInputsTest(unittest.TestCase):
    def test_texts(self):
        text = OpenText(1, [("a", (0, 1))])
        for call in [decisive, parting]:
            refused(self, "InvalidText", lambda value: isinstance(value, OpenText), lambda value: call(value, text))
            refused(self, "InvalidText", lambda value: isinstance(value, OpenText), lambda value: call(text, value))
            for other in [OpenText(0, []), OpenText(2, []), OpenText(3, [])]:
                told(self, "Unlike", other, call, text, other)
                told(self, "Unlike", text, call, other, text)
            told(self, "InvalidText", None, call, None, "x")
            told(self, "InvalidText", "x", call, OpenText(2, []), "x")


if __name__ == "__main__":
    unittest.main()
