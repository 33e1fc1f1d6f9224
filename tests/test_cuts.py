"""[31] and [32]: texts cut at open places."""

import unittest

from countscribe.cuts import cut, parts
from countscribe.places import how_many_places, open_place
from countscribe.texts import OpenText, joined, length, written
from helper import FAR, all_points, chances, is_number, refused, some_text, strange_values, told, value_at
from plainplaces import is_at_most, plain_places


def is_text(value):
    return isinstance(value, OpenText)


def is_plain_form(given, many):
    return isinstance(given, tuple) and len(given) == many + 1 and all([is_number(number, 0, 10 ** 99) for number in given])


def all_joined(texts):
    made = OpenText(texts[0].many(), [])
    for text in texts:
        made = joined(made, text)
    return made


class PlainCheckTest(unittest.TestCase):
    def test_cut_at_all_places(self):
        chance = chances(60)
        for _ in range(500):
            many = chance.randint(0, 3)
            text = some_text(chance, many, 4, chance.choice(["a", "ab", "aab"]))
            for place in plain_places(text)[:60]:
                one, other = cut(text, place)
                self.assertEqual((joined(one, other), length(one)), (text, place))
                for point in all_points(many, 1):
                    word, size = written(text, point), value_at(place, point)
                    self.assertEqual((written(one, point), written(other, point)), (word[:size], word[size:]))

    def test_cut_parts_what_was_joined(self):
        chance = chances(61)
        for _ in range(1500):
            many = chance.randint(0, 3)
            one, other = some_text(chance, many, 3), some_text(chance, many, 3)
            self.assertEqual(cut(joined(one, other), length(one)), (one, other))

    def test_parts(self):
        chance = chances(62)
        for _ in range(500):
            many = chance.randint(0, 3)
            text = some_text(chance, many, 4, chance.choice(["a", "ab", "aab"]))
            found = plain_places(text)
            places = []
            for place in sorted([chance.choice(found) for _ in range(chance.randint(0, 6))]):
                if not places or is_at_most(places[-1], place):
                    places.append(place)
            given = list(places)
            texts = parts(text, places)
            self.assertEqual((places, len(texts)), (given, len(places) + 1))
            self.assertEqual(all_joined(texts), text)
            for at, place in enumerate(places):
                self.assertEqual(length(all_joined(texts[:at + 1])), place)
                self.assertEqual((all_joined(texts[:at + 1]), all_joined(texts[at + 1:])), cut(text, place))

    def test_parts_are_what_was_joined(self):
        chance = chances(63)
        for _ in range(500):
            many = chance.randint(0, 3)
            texts = [some_text(chance, many, 2) for _ in range(chance.randint(1, 5))]
            places = [length(all_joined(texts[:at])) for at in range(1, len(texts))]
            self.assertEqual(parts(all_joined(texts), places), texts)


class EdgesTest(unittest.TestCase):
    def test_the_empty_text(self):
        for many in range(4):
            text, none = OpenText(many, []), (0,) * (many + 1)
            self.assertEqual((cut(text, none), parts(text, []), parts(text, [none, none])), ((text, text), [text], [text] * 3))

    def test_both_ends(self):
        text = OpenText(2, [("ab", (1, 1, 0)), ("c", (0, 0, 1))])
        empty = OpenText(2, [])
        self.assertEqual((cut(text, (0, 0, 0)), cut(text, length(text))), ((empty, text), (text, empty)))
        self.assertEqual(parts(text, []), [text])

    def test_one_place_several_times(self):
        text = OpenText(1, [("ab", (1, 3))])
        empty = OpenText(1, [])
        one, other = cut(text, (1, 2))
        self.assertEqual((one.pieces(), other.pieces()), ([("ab", (0, 1)), ("a", (1, 0))], [("ba", (0, 2)), ("b", (1, 0))]))
        self.assertEqual(parts(text, [(1, 2)] * 4), [one, empty, empty, empty, other])
        self.assertEqual(parts(text, [(0, 2), (0, 2), (1, 4), (1, 4)])[1::2], [empty, empty])

    def test_within_one_power(self):
        text = OpenText(2, [("ab", (0, 5, 2)), ("aba", (1, 0, 0))])
        texts = parts(text, [(0, 2, 0), (1, 4, 2), (2, 4, 4), (3, 8, 4)])
        self.assertEqual([made.pieces() for made in texts], [
            [("ab", (0, 1, 0))], [("ab", (0, 1, 1)), ("a", (1, 0, 0))], [("ba", (0, 0, 1)), ("b", (1, 0, 0))],
            [("ab", (0, 2, 0)), ("a", (1, 0, 0))], [("ba", (0, 1, 0))],
        ])

    def test_far_numbers(self):
        for far in [10 ** 18, 10 ** 29 - 1]:
            text = OpenText(1, [("ab", (0, far)), ("a", (1, 0)), ("c", (0, far))])
            one, other = cut(text, (1, 2 * far - 2))
            self.assertEqual((one.pieces(), other.pieces()), ([("ab", (0, far - 1)), ("a", (1, 0))], [("ba", (0, 1)), ("c", (0, far))]))
            one, other = cut(text, (1, 2 * far + 1))
            self.assertEqual(other.pieces(), [("c", (0, far - 1))])

    def test_600_places(self):
        text = OpenText(2, [piece for k in range(300) for piece in [("ab", (0, 2, k)), ("ac", (1, 0, 0)), ("ab", (0, k, FAR))]])
        many = how_many_places(text)
        places = []
        for number in range(0, many, many // 5000):
            place = open_place(text, number)
            if not places or is_at_most(places[-1], place):
                places.append(place)
            if len(places) == 300:
                break
        places = places + [places[-1]] * (600 - len(places))
        texts = parts(text, places)
        self.assertEqual(len(texts), 601)
        self.assertEqual(all_joined(texts), text)
        text = OpenText(1, [("a", (1000, 10 ** 20))])
        places = [(at, at * at) for at in range(600)]
        texts = parts(text, places)
        self.assertEqual(texts[5].pieces(), [("a", (0, 25 - 16)), ("a", (1, 0))])
        self.assertEqual(all_joined(texts), text)

    def test_kinds_of_results(self):
        text = OpenText(1, [("a", (1, 1))])
        self.assertIsInstance(cut(text, (0, 1)), tuple)
        self.assertEqual(len(cut(text, (0, 1))), 2)
        self.assertIsInstance(parts(text, []), list)
        self.assertEqual((cut(text=text, place=(0, 1)), parts(text=text, places=[])), (cut(text, (0, 1)), [text]))

    def test_lists_belong_to_the_caller(self):
        text = OpenText(1, [("a", (2, 2))])
        places = [(0, 1), (1, 2)]
        found = parts(text, places)
        self.assertEqual(places, [(0, 1), (1, 2)])
        places.clear()
        found[0].pieces().clear()
        found.pop()
        self.assertEqual([made.pieces() for made in parts(text, [(0, 1), (1, 2)])],
                         [[("a", (0, 1))], [("a", (0, 1)), ("a", (1, 0))], [("a", (1, 0))]])
        self.assertEqual(text.pieces(), [("a", (0, 2)), ("aa", (1, 0))])


class WrongInputsTest(unittest.TestCase):
    def test_texts(self):
        refused(self, "InvalidText", is_text, lambda value: cut(value, (0, 0)))
        refused(self, "InvalidText", is_text, lambda value: parts(value, []))

    def test_places_of_cut(self):
        for many in range(4):
            text = OpenText(many, [("a", (1,) * (many + 1))])
            refused(self, "InvalidForm", lambda value: is_plain_form(value, many), lambda value: cut(text, value))
        text = OpenText(1, [("ab", (0, 2)), ("c", (1, 0))])
        for form in [(0, 1), (1, 0), (0, 3), (1, 2), (2, 4), (0, 6), (FAR, FAR)]:
            told(self, "NotOpen", form, cut, text, form)

    def test_lists_of_places(self):
        text = OpenText(1, [("ab", (0, 2)), ("c", (1, 0))])
        refused(self, "InvalidList", lambda value: isinstance(value, list), lambda value: parts(text, value))
        for item in strange_values():
            if not is_plain_form(item, 1):
                told(self, "InvalidForm", item, parts, text, [(0, 0), item, None])
        for item in [(0, 1), (1, 0), (FAR, 0)]:
            told(self, "NotOpen", item, parts, text, [(0, 0), item, None])
        item = (0, 2)
        told(self, "Unlike", item, parts, text, [(0, 4), item])
        told(self, "Unlike", item, parts, text, [(0, 2), (0, 4), item, None])
        text = OpenText(2, [("a", (0, 2, 2))])
        item = (0, 0, 1)
        told(self, "Unlike", item, parts, text, [(0, 1, 0), item])

    def test_the_first_wrong_one_is_told(self):
        text = OpenText(1, [("ab", (0, 2)), ("c", (1, 0))])
        told(self, "InvalidText", None, cut, None, None)
        told(self, "InvalidText", None, parts, None, None)
        places = ((0, 9),)
        told(self, "InvalidList", places, parts, text, places)
        item = (0, 1)
        told(self, "NotOpen", item, parts, text, [(0, 2), item, (0, 0, 0)])
        told(self, "NotOpen", item, parts, text, [(0, 4), item, (0, 0)])
        item = (0, 1, 0)
        told(self, "InvalidForm", item, parts, text, [item, (0, 9)])
        item = (0, 0)
        told(self, "Unlike", item, parts, text, [(0, 4), item, (0, 9), None])


if __name__ == "__main__":
    unittest.main()
