"""[28] to [30]: the places at which a text can be cut at every point in one way."""

import unittest
from itertools import product

from countscribe.cuts import cut
from countscribe.places import how_many_places, is_open_place, open_place, place_above, place_below, place_number
from countscribe.texts import OpenText, joined, length
from helper import (
    FAR, answered_false, chances, is_number, refused, run_example, some_text, strange_values, texts_within, told,
)
from plainplaces import all_splits, is_at_most, plain_places

EXAMPLE = """
from countscribe.cuts import cut, parts
from countscribe.places import how_many_places, is_open_place, open_place, place_above, place_below, place_number
from countscribe.texts import OpenText
both = OpenText(2, [("ab", (0, 1, 0)), ("ac", (0, 0, 1)), ("a", (1, 0, 0))])
[open_place(both, at) for at in range(how_many_places(both))]
# [(0, 0, 0), (0, 2, 0), (0, 2, 2), (1, 0, 0), (1, 2, 0), (1, 2, 2)]
[text.pieces() for text in cut(both, (1, 2, 0))]
# [[('ab', (0, 1, 0)), ('a', (1, 0, 0))], [('ca', (0, 0, 1))]]
[text.pieces() for text in parts(both, [(1, 0, 0), (1, 2, 0)])]
# [[('a', (1, 0, 0))], [('ba', (0, 1, 0))], [('ca', (0, 0, 1))]]
[place_number(both, (1, 0, 0)), place_below(both, (5, 1, 7)), place_above(both, (0, 1, 0)), place_above(both, (2, 0, 0))]
# [3, (1, 0, 0), (0, 2, 0), None]
never = OpenText(1, [("ba", (0, 1)), ("a", (0, 1)), ("b", (1, 0))])
is_open_place(never, (1, 0))
# False
"""


def is_text(value):
    return isinstance(value, OpenText)


def is_plain_form(given, many):
    return isinstance(given, tuple) and len(given) == many + 1 and all([is_number(number, 0, 10 ** 99) for number in given])


def sample_texts(number):
    """Texts of several kinds, among them such with many places."""
    chance = chances(number)
    found = []
    for many in range(4):
        for _ in range(120):
            text = some_text(chance, many, 4, chance.choice(["a", "ab", "ab", "aab"]))
            if len(plain_places(text)) < 400:
                found.append(text)
    return found


class ExampleTest(unittest.TestCase):
    def test_example(self):
        run_example(self, EXAMPLE)


class DefinitionTest(unittest.TestCase):
    def test_all_small_texts(self):
        for many, most, signs in [(1, (2, 3), "ab"), (1, (3, 2), "ab"), (1, (4, 3), "a"), (2, (2, 1, 1), "ab"), (2, (2, 2, 2), "a")]:
            by_length = texts_within(many, most, signs)
            splits = all_splits(by_length, most)
            for own in by_length:
                for text in by_length[own]:
                    found = splits[repr(text.pieces())]
                    self.assertEqual(plain_places(text), sorted(found), text.pieces())
                    for form in product(*[range(number + 2) for number in own]):
                        self.assertIs(is_open_place(text, form), form in found)
                    for place in found:
                        self.assertEqual(found[place], [cut(text, place)])


class RuleTest(unittest.TestCase):
    def test_numbers_of_places(self):
        for text in sample_texts(50):
            found = plain_places(text)
            self.assertEqual(len(set(found)), len(found))
            self.assertEqual(how_many_places(text), len(found))
            self.assertEqual([open_place(text, at) for at in range(len(found))], found)
            self.assertEqual([place_number(text, place) for place in found], list(range(len(found))))
            told(self, "InvalidNumber", len(found), open_place, text, len(found))

    def test_forms_beside_open_places(self):
        for text in sample_texts(51)[::3]:
            found = plain_places(text)
            for place in found:
                self.assertIs(is_open_place(text, place), True)
                for at in range(len(place)):
                    for by in [-1, 1]:
                        form = place[:at] + (place[at] + by,) + place[at + 1:]
                        self.assertIs(is_open_place(text, form), form in found)
                        if form not in found:
                            told(self, "NotOpen" if form[at] >= 0 else "InvalidForm", form, place_number, text, form)

    def test_below_and_above(self):
        chance = chances(52)
        nones = 0
        for text in sample_texts(53):
            found, most = plain_places(text), length(text)
            for _ in range(25):
                form = tuple([chance.randint(0, number + 1) for number in most])
                lower = [place for place in found if is_at_most(place, form)]
                below = place_below(text, form)
                self.assertIn(below, lower)
                self.assertTrue(all([is_at_most(place, below) for place in lower]))
                upper = [place for place in found if is_at_most(form, place)]
                above = place_above(text, form)
                if is_at_most(form, most):
                    self.assertIn(above, upper)
                    self.assertTrue(all([is_at_most(above, place) for place in upper]))
                else:
                    self.assertEqual((above, upper), (None, []))
                    nones += 1
            for place in found[:10]:
                self.assertEqual((place_below(text, place), place_above(text, place)), (place, place))
        self.assertGreater(nones, 100)

    def test_lesser_and_greater_numbers_make_open_places(self):
        for text in sample_texts(54)[::4]:
            found = plain_places(text)[:40]
            for one in found:
                for other in found:
                    self.assertIs(is_open_place(text, tuple([min(a, b) for a, b in zip(one, other)])), True)
                    self.assertIs(is_open_place(text, tuple([max(a, b) for a, b in zip(one, other)])), True)


class EdgesTest(unittest.TestCase):
    def test_the_empty_text(self):
        for many in range(4):
            text, none = OpenText(many, []), (0,) * (many + 1)
            self.assertEqual((how_many_places(text), open_place(text, 0), place_number(text, none)), (1, none, 0))
            self.assertIs(is_open_place(text, none), True)
            self.assertEqual((place_below(text, (FAR,) * (many + 1)), place_above(text, none)), (none, none))
            self.assertIsNone(place_above(text, none[:-1] + (1,)))
            told(self, "InvalidNumber", 1, open_place, text, 1)

    def test_texts_without_a_power(self):
        for many in [0, 3]:
            text = OpenText(many, [("abc", (1,) + (0,) * many)])
            found = [(at,) + (0,) * many for at in range(4)]
            self.assertEqual([open_place(text, at) for at in range(how_many_places(text))], found)
            self.assertEqual(place_below(text, (FAR,) * (many + 1)), found[3])

    def test_powers_alone(self):
        text = OpenText(1, [("ab", (0, 3)), ("a", (0, 1))])
        self.assertEqual([open_place(text, at) for at in range(how_many_places(text))], [(0, 0), (0, 2), (0, 4), (0, 6), (0, 7)])
        self.assertEqual([place_below(text, (0, 5)), place_above(text, (0, 5)), place_below(text, (9, 9))], [(0, 4), (0, 6), (0, 7)])

    def test_place_numbers_of_many_figures(self):
        far = 10 ** 29 - 1
        text = OpenText(3, [("ab", (0, far, far, far)), ("a", (1, 0, 0, 0)), ("c", (0, 1, 0, 0))])
        many = how_many_places(text)
        each = (far + 1) ** 3
        self.assertEqual(many, each + each + 1)
        self.assertGreater(many, 10 ** 80)
        last = length(text)
        self.assertEqual((open_place(text, many - 1), place_number(text, last)), (last, many - 1))
        self.assertEqual((open_place(text, many - 2), place_number(text, open_place(text, many - 2))), (last[:1] + (last[1] - 1,) + last[2:], many - 2))
        for number in [0, 1, far, far + 1, 10 ** 45, each - 1, each, each + 1, 2 * each, many - 1]:
            place = open_place(text, number)
            self.assertEqual(place_number(text, place), number)
            self.assertIs(is_open_place(text, place), True)
        told(self, "InvalidNumber", many, open_place, text, many)
        told(self, "InvalidNumber", -1, open_place, text, -1)
        self.assertEqual(open_place(text, 1), (0, 0, 0, 2))
        self.assertEqual(open_place(text, (far + 1) ** 2), (0, 2, 0, 0))
        self.assertEqual(place_below(text, (5, 2 * far - 1, 7, 10 ** 39)), (1, 2 * far - 2, 6, 2 * far))
        self.assertEqual(place_above(text, (0, 2 * far - 1, 7, 1)), (0, 2 * far, 8, 2))

    def test_places_that_words_show_but_texts_do_not_have(self):
        text = OpenText(1, [("ba", (0, 1)), ("a", (0, 1)), ("b", (1, 0))])
        self.assertIs(is_open_place(text, (1, 0)), False)
        form = (1, 0)
        told(self, "NotOpen", form, place_number, text, form)

    def test_forms_that_are_at_most_the_length(self):
        text = OpenText(1, [("ab", (0, 2))])
        self.assertEqual([is_open_place(text, (0, k)) for k in range(6)], [True, False, True, False, True, False])
        self.assertEqual([is_open_place(text, (1, k)) for k in range(6)], [False] * 6)
        self.assertEqual([place_above(text, (0, k)) for k in range(6)], [(0, 0), (0, 2), (0, 2), (0, 4), (0, 4), None])
        self.assertIsNone(place_above(text, (1, 0)))

    def test_large_texts(self):
        pieces = [piece for k in range(600) for piece in [("ab" if k % 2 else "a", (0, 1, k)), ("a", (1, 0, 0))]]
        text = OpenText(2, pieces)
        many = how_many_places(text)
        for number in [0, many // 3, many - 1]:
            self.assertEqual(place_number(text, open_place(text, number)), number)
        self.assertEqual(place_below(text, (FAR, FAR, FAR)), length(text))
        self.assertEqual(place_above(text, (0, 0, 0)), (0, 0, 0))
        text = OpenText(1, [("a", (1999, 1))])
        self.assertEqual((how_many_places(text), open_place(text, 3999)), (4000, (1999, 1)))

    def test_by_names(self):
        text = OpenText(1, [("ab", (0, 2))])
        self.assertEqual([is_open_place(text=text, value=(0, 2)), how_many_places(text=text), open_place(text=text, number=1)], [True, 3, (0, 2)])
        self.assertEqual([place_number(text=text, place=(0, 4)), place_below(text=text, form=(0, 3)), place_above(text=text, form=(0, 3))],
                         [2, (0, 2), (0, 4)])

    def test_texts_stay(self):
        text = OpenText(1, [("ab", (0, 2))])
        how_many_places(text), open_place(text, 1), place_number(text, (0, 2)), place_below(text, (5, 5)), place_above(text, (0, 1))
        self.assertEqual(text.pieces(), [("ab", (0, 2))])


class WrongInputsTest(unittest.TestCase):
    def test_texts(self):
        for call in [lambda value: is_open_place(value, (0, 0)), how_many_places, lambda value: open_place(value, 0),
                     lambda value: place_number(value, (0, 0)), lambda value: place_below(value, (0, 0)),
                     lambda value: place_above(value, (0, 0))]:
            refused(self, "InvalidText", is_text, call)

    def test_forms(self):
        for many in range(4):
            text = OpenText(many, [("a", (1,) * (many + 1))])
            for call in [place_number, place_below, place_above]:
                refused(self, "InvalidForm", lambda value: is_plain_form(value, many), lambda value: call(text, value))
                for form in [(0,) * many, (0,) * (many + 2), (True,) * (many + 1), [0] * (many + 1), (-1,) * (many + 1)]:
                    told(self, "InvalidForm", form, call, text, form)
            answered_false(self, lambda value: is_plain_form(value, many), lambda value: is_open_place(text, value))
        text = OpenText(1, [("ab", (0, 1))])
        for value in strange_values() + [(0, True), (0, 2, 0), (0, 3), (0, 4), (1, 0), [0, 2]]:
            if value != (0, 0):
                self.assertIs(is_open_place(text, value), False)

    def test_places(self):
        text = OpenText(1, [("ab", (0, 2)), ("c", (1, 0))])
        for form in [(0, 1), (1, 0), (0, 3), (1, 2), (2, 4), (0, 6), (FAR, FAR)]:
            told(self, "NotOpen", form, place_number, text, form)

    def test_numbers(self):
        text = OpenText(1, [("ab", (0, 2)), ("c", (1, 0))])
        refused(self, "InvalidNumber", lambda value: is_number(value, 0, 3), lambda value: open_place(text, value))
        told(self, "InvalidNumber", 4, open_place, text, 4)

    def test_the_first_wrong_argument_is_told(self):
        told(self, "InvalidText", None, open_place, None, -1)
        told(self, "InvalidText", None, place_number, None, None)
        told(self, "InvalidText", None, place_below, None, None)
        told(self, "InvalidText", None, place_above, None, None)
        told(self, "InvalidText", 1, is_open_place, 1, None)
        form = (0, 1, 0)
        told(self, "InvalidForm", form, place_number, OpenText(1, [("ab", (0, 2))]), form)


class JoinedTest(unittest.TestCase):
    def test_the_length_of_the_first_is_an_open_place(self):
        chance = chances(55)
        for _ in range(600):
            many = chance.randint(0, 3)
            one, other = some_text(chance, many, 3), some_text(chance, many, 3)
            self.assertIs(is_open_place(joined(one, other), length(one)), True)


if __name__ == "__main__":
    unittest.main()
