"""[52]: the vectors of writers beside which no writer is at most as great everywhere."""

import unittest

from countscribe.costs import Prices, vector
from countscribe.fronts import front, front_writer
from countscribe.lean import is_lean, spots
from countscribe.plainwriters import plain_front
from countscribe.shortest import least_cost
from countscribe.texts import OpenText, mapped, mirrored, replaced
from helper import FAR, chances, is_number, refused, run_example, some_text, some_word, told
from plainways import all_lean, bare_word, long_texts, plain_least, small_groups, small_texts, vector_of

EXAMPLE = """
from countscribe.fronts import front
from countscribe.texts import OpenText
text, small = OpenText(2, [("ab", (1, 1, 0)), ("b", (0, 0, 1))]), OpenText(1, [("a", (1, 1))])
[front(text), front(small)]
# [[(3, 2, 2, 1), (5, 2, 2, 0)], [(1, 1, 1, 1), (2, 1, 1, 0)]]
"""


def is_text(value):
    return isinstance(value, OpenText)


class ExampleTest(unittest.TestCase):
    def test_example(self):
        run_example(self, EXAMPLE)


class PlainCheckTest(unittest.TestCase):
    def check_writers(self, text, found):
        for goal in found:
            writer = front_writer(text, goal)
            self.assertIs(is_lean(text, writer), True)
            self.assertEqual(vector(text.many(), writer), goal)

    def test_all_writers_of_small_texts(self):
        checked = 0
        for text, rows in small_groups():
            self.assertEqual(front(text), plain_least([vector_of(text.many(), row) for row in rows]))
            checked += 1
        self.assertGreater(checked, 400)

    def test_all_lean_writers(self):
        chance = chances(191)
        several = 0
        for text in small_texts(chance, 150, 5):
            vectors = [vector_of(text.many(), row) for row in all_lean(text)]
            found = front(text)
            self.assertEqual(found, plain_least(vectors))
            several += len(found) > 2
            self.check_writers(text, found)
            for other in set(vectors):
                self.assertIs(front_writer(text, other) is None, other not in found)
        self.assertGreater(several, 10)

    def test_least_cost_at_any_prices(self):
        chance = chances(192)
        for _ in range(150):
            text = some_text(chance, chance.randint(0, 3), 8, chance.choice(["a", "ab", "abc"]))
            found = front(text)
            for _ in range(6):
                prices = Prices(letter=chance.randint(1, 9), sign=chance.randint(0, 9), unknown=chance.randint(0, 9), number=chance.randint(0, 9))
                self.assertEqual(least_cost(text, prices), min([prices.of(one) for one in found]))
            self.check_writers(text, found)

    def test_what_keeps_the_front(self):
        chance = chances(193)
        for _ in range(200):
            many = chance.randint(0, 3)
            text = some_text(chance, many, 7, chance.choice(["ab", "abc"]))
            found = front(text)
            self.assertEqual(front(mirrored(text)), found)
            self.assertEqual(front(mapped(text, {"a": "b", "b": "c", "c": "a"})), found)
            forms = [(0,) + tuple([chance.choice([1, 2, 5]) if at == own else 0 for own in range(many)]) for at in range(many)]
            self.assertEqual(front(replaced(text, many, forms)), found)

    def test_texts_without_unknowns(self):
        chance = chances(194)
        for _ in range(80):
            word = some_word(chance, chance.choice(["a", "ab", "abc"]), 0, 30)
            self.assertEqual(front(OpenText(0, [(word, (1,))])), [(letters, signs, 0, signs) for letters, signs in plain_front(word)])


class EdgesTest(unittest.TestCase):
    def test_the_empty_text_and_powers_alone(self):
        for many in range(4):
            none = OpenText(many, [])
            self.assertEqual([front(none), front_writer(none, (0, 0, 0, 0)), front_writer(none, (1, 0, 0, 0))], [[(0, 0, 0, 0)], [], None])
        text = OpenText(3, [("ab", (0, FAR, 0, 2)), ("a", (0, 0, 1, 0))])
        self.assertEqual([front(text), front_writer(text, (3, 2, 3, 0))], [[(3, 2, 3, 0)], [("ab", (0, FAR, 0, 2)), ("a", (0, 0, 1, 0))]])
        text = OpenText(1, [("ab", (1, 0))])
        self.assertEqual([front(text), front_writer(text, (2, 0, 0, 0)), front_writer(text, (2, 1, 0, 1))], [[(2, 0, 0, 0)], [("ab", (1, 0))], None])

    def test_near_the_limits(self):
        repeats = [("a" if k % 2 else "bcd", (3 if k % 2 else 1, 0, 1, 0)) for k in range(12)] + [("a", (4, 0, 0, 0))]
        for text in long_texts(40) + [OpenText(3, repeats)]:
            self.assertEqual([len(spots(text)), len(bare_word(text))], [12, 40])
            found = front(text)
            self.assertEqual(found, sorted(found))
            self.assertEqual(plain_least(found), found)
            for goal in found[::7]:
                writer = front_writer(text, goal)
                self.assertEqual([is_lean(text, writer), vector(text.many(), writer)], [True, goal])


class WrongInputsTest(unittest.TestCase):
    def test_texts_and_vectors(self):
        text = OpenText(1, [("a", (1, 1))])
        refused(self, "InvalidText", is_text, front)
        refused(self, "InvalidText", is_text, lambda value: front_writer(value, (1, 1, 1, 1)))
        refused(self, "InvalidVector", lambda value: isinstance(value, tuple) and len(value) == 4 and all([is_number(item, 0, 10 ** 99) for item in value]),
                lambda value: front_writer(text, value))
        for value in [[1, 1, 1, 1], (1, 1, 1), (1, 1, 1, 1, 1), (1, 1, 1, -1), (True, 1, 1, 1)]:
            told(self, "InvalidVector", value, front_writer, text, value)
        one, other = ["x"], ["y"]
        told(self, "InvalidText", one, front_writer, one, other)
        self.assertIsNone(front_writer(text, (10 ** 39,) * 4))

    def test_by_names_and_texts_stay(self):
        text = OpenText(1, [("a", (1, 1))])
        found, writer = front(text=text), front_writer(text=text, vector=(1, 1, 1, 1))
        found.append(1), writer.append(1)
        self.assertEqual([front(text), front_writer(text, (1, 1, 1, 1))], [[(1, 1, 1, 1), (2, 1, 1, 0)], [("a", (1, 1))]])
        self.assertEqual(text, OpenText(1, [("a", (1, 1))]))


if __name__ == "__main__":
    unittest.main()
