"""[40], [41]: lines of points, and what is written along them."""

import unittest

from countscribe.lines import Line, along, letters_along, place_on, point_at
from countscribe.pieces import normal
from countscribe.runs import is_wheel, wheel_value
from countscribe.texts import OpenText, kept, length, written
from helper import FAR, chances, is_number, refused, run_example, some_pieces, some_text, some_word, strange_values, told, value_at

EXAMPLE = """
from countscribe.lines import Line, along, letters_along, place_on, point_at
from countscribe.texts import OpenText
line = Line([1, 0], [1, 2])
[point_at(line, 10), place_on(line, [11, 20]), place_on(line, [11, 21]), place_on(Line([2], [0]), [2])]
# [[11, 20], 10, None, 0]
along(OpenText(2, [("a", (0, 1, 0)), ("b", (0, 0, 1))]), line).pieces()
# [('a', (0, 1)), ('a', (1, 0)), ('b', (0, 2))]
text = OpenText(1, [("ab", (0, 1)), ("c", (1, 0)), ("b", (2, 1))])
[letters_along(text, (0, 1)), letters_along(text, (0, 2)), letters_along(text, (5, 1))]
# [(['c'], ['b', 'a']), ([], ['c']), ([None, None, 'b', 'b', 'b', 'c'], ['b', 'a'])]
"""


def is_text(value):
    return isinstance(value, OpenText)


def is_text_along(value):
    return isinstance(value, OpenText) and value.many() == 1


def is_row(value):
    """Whether a value is a point for any number of unknowns."""
    return isinstance(value, list) and len(value) <= 3 and all([is_number(item, 0, 10 ** 99) for item in value])


def fixed_letters(text):
    return sum([len(word) for word, form in text.pieces() if form[0]])


class ExampleTest(unittest.TestCase):
    def test_example(self):
        run_example(self, EXAMPLE)


class LineTest(unittest.TestCase):
    def test_points(self):
        chance = chances(120)
        for _ in range(300):
            many = chance.randint(0, 3)
            base, step = [chance.randint(0, 5) for _ in range(many)], [chance.choice([0, 0, 1, 2, 3]) for _ in range(many)]
            line = Line(base, step)
            self.assertEqual([line.many(), line.base(), line.step()], [many, base, step])
            row = [[start + by * count for start, by in zip(base, step)] for count in range(10)]
            self.assertEqual([point_at(line, count) for count in range(10)], row)
            for _ in range(20):
                point = [chance.randint(0, 9) for _ in range(many)]
                self.assertEqual(place_on(line, point), row.index(point) if point in row else None)
            for point in row:
                self.assertEqual(place_on(line, point), row.index(point))

    def test_edges(self):
        line = Line([1, 2, 3], [0, 10, 15])
        self.assertEqual([place_on(line, [1, 2, 3]), place_on(line, [1, 12, 18]), place_on(line, [1, 12, 33]), place_on(line, [0, 2, 3])], [0, 1, None, None])
        self.assertEqual([place_on(line, [1, 7, 18]), place_on(line, [1, 0, 0]), place_on(line, [1, 32, 48])], [None, None, 3])
        self.assertEqual([place_on(Line([2], [0]), [2]), place_on(Line([2], [0]), [3]), place_on(Line([5], [2]), [3])], [0, None, None])
        self.assertEqual([point_at(Line([], []), FAR), place_on(Line([], []), [])], [[], 0])
        far = 10 ** 29
        line = Line([7, far], [0, far])
        self.assertEqual([point_at(line, far), place_on(line, [7, far * far + far]), place_on(line, [7, far * far])], [[7, far * far + far], far, far - 1])
        self.assertIsNone(place_on(line, [7, far * far + 1]))

    def test_equality(self):
        self.assertIs(Line([1], [2]) == Line([1], [2]), True)
        self.assertIs(Line([], []) == Line([], []), True)
        self.assertIs(Line([1], [2]) != Line([1], [2]), False)
        for other in [Line([1], [3]), Line([0], [2]), Line([1, 0], [2, 0]), Line([], []), ([1], [2]), None, 1, OpenText(1, [])]:
            self.assertIs(Line([1], [2]) == other, False)
        for value in strange_values():
            self.assertIs(Line([9], [2]) == value, False)

    def test_lists_that_are_handed_in_stay(self):
        base, step = [1], [2]
        line = Line(base=base, step=step)
        base.append(7), step.append(8)
        line.base().append(1), line.step().append(1), point_at(line, 0).append(1)
        self.assertEqual([line.base(), line.step(), line.many(), point_at(line=line, number=2), place_on(line=line, point=[3])], [[1], [2], 1, [5], 1])
        self.assertEqual(line, Line([1], [2]))

    def test_wrong_inputs(self):
        refused(self, "InvalidPoint", is_row, lambda value: Line(value, [0]))
        refused(self, "InvalidPoint", is_row, lambda value: Line([0], value))
        for value in [[0] * 4, [-1], [True], (0,), [None], [0.5], ["1"]]:
            told(self, "InvalidPoint", value, Line, value, [0])
            told(self, "InvalidPoint", value, Line, [0], value)
        for many in range(4):
            step = [0] * many
            if many != 2:
                told(self, "Unlike", step, Line, [0, 0], step)
        one, other = [-1], [None]
        told(self, "InvalidPoint", one, Line, one, other)
        told(self, "InvalidPoint", other, Line, [], other)
        line = Line([0], [1])
        refused(self, "InvalidLine", lambda value: isinstance(value, Line), lambda value: point_at(value, 0))
        refused(self, "InvalidLine", lambda value: isinstance(value, Line), lambda value: place_on(value, [0]))
        refused(self, "InvalidNumber", lambda value: is_number(value, 0, 10 ** 99), lambda value: point_at(line, value))
        refused(self, "InvalidPoint", lambda value: is_row(value) and len(value) == 1, lambda value: place_on(line, value))
        told(self, "InvalidLine", None, point_at, None, -1)
        told(self, "InvalidLine", None, place_on, None, None)


class AlongTest(unittest.TestCase):
    def test_against_written_words(self):
        chance = chances(121)
        for _ in range(400):
            many = chance.randint(0, 3)
            text = some_text(chance, many, 4)
            line = Line([chance.randint(0, 3) for _ in range(many)], [chance.choice([0, 1, 2]) for _ in range(many)])
            found = along(text, line)
            self.assertEqual(found.many(), 1)
            for count in range(5):
                self.assertEqual(written(found, [count]), written(text, point_at(line, count)))

    def test_steps_of_0_and_great_numbers(self):
        text = OpenText(2, [("ab", (0, 1, 2))])
        self.assertEqual(along(text, Line([1, 2], [0, 0])).pieces(), [("ababababab", (1, 0))])
        self.assertEqual(along(text, Line([0, 0], [FAR, 1])).pieces(), [("ab", (0, FAR + 2))])
        self.assertEqual(along(OpenText(0, [("ab", (1,))]), Line([], [])), OpenText(1, [("ab", (1, 0))]))
        self.assertEqual(along(OpenText(3, []), Line([FAR] * 3, [FAR] * 3)), OpenText(1, []))

    def test_measures_at_the_bound(self):
        text = OpenText(1, [("ab", (0, 1)), ("c", (1, 0))])
        self.assertEqual(length(along(text, Line([998], [1]))), (1997, 2))
        text = OpenText(1, [("a", (0, 1)), ("b", (1, 0))])
        self.assertEqual(length(along(text, Line([1998], [1]))), (1999, 1))
        told(self, "TooLong", 2001, along, text, Line([1999], [1]))
        self.assertEqual(length(along(text, Line([1999], [0]))), (2000, 0))
        told(self, "TooLong", 2001, along, text, Line([2000], [0]))
        told(self, "TooLong", FAR + 2, along, text, Line([FAR], [1]))

    def test_wrong_inputs(self):
        text, line = OpenText(1, [("a", (0, 1))]), Line([0], [1])
        refused(self, "InvalidText", is_text, lambda value: along(value, line))
        refused(self, "InvalidLine", lambda value: isinstance(value, Line), lambda value: along(text, value))
        for other in [Line([], []), Line([9000, 0], [1, 0])]:
            told(self, "Unlike", other, along, text, other)
        told(self, "InvalidText", None, along, None, None)
        self.assertEqual(along(text=text, line=line), text)
        self.assertEqual((text.pieces(), line), ([("a", (0, 1))], Line([0], [1])))


class LettersAlongTest(unittest.TestCase):
    def check(self, text, place, counts):
        wheel = letters_along(text, place)
        self.assertIs(is_wheel(wheel), True)
        for count in counts:
            word = written(text, [count])
            at = value_at(place, [count])
            self.assertEqual(wheel_value(wheel, count), word[at] if at < len(word) else None, (text.pieces(), place, count))
        self.assertLessEqual(len(wheel[0]), 1 + max(place[0], fixed_letters(text)))
        sizes = [len(word) for word, form in text.pieces() if not form[0]]
        self.assertTrue(len(wheel[1]) == 1 or any([size % len(wheel[1]) == 0 for size in sizes]))
        return wheel

    def test_against_written_words(self):
        chance = chances(122)
        turns = {}
        for _ in range(700):
            text = OpenText(1, some_pieces(chance, 1, 5, chance.choice(["ab", "abc"])))
            place = (chance.randint(0, 12), chance.choice([0, 0, 1, 2, 3, chance.randint(0, 9)]))
            if chance.random() < 0.5:
                pieces = some_pieces(chance, 1, 1, "ab") + [(some_word(chance, "abc", 2, 5), (1, chance.randint(1, 3)))]
                text = OpenText(1, pieces + some_pieces(chance, 1, 2, "ab"))
            wheel = self.check(text, place, list(range(25)) + [chance.randint(30, 90)])
            turns[len(wheel[1])] = turns.get(len(wheel[1]), 0) + 1
        self.assertTrue(all([turns.get(size, 0) > 5 for size in [1, 2, 3, 4]]), turns)

    def test_great_counts(self):
        chance = chances(123)
        for _ in range(150):
            text, place = some_text(chance, 1, 5, "abc"), (chance.randint(0, 9), chance.randint(0, 5))
            wheel = letters_along(text, place)
            for count in [10 ** 6, FAR + chance.randint(0, 9), 10 ** 39]:
                word, at = kept(text, [count]), value_at(place, [count])
                self.assertEqual(wheel_value(wheel, count), word.letter(at) if at < word.length() else None)

    def test_places_beyond_the_end(self):
        text = OpenText(1, [("ab", (3, 0))])
        self.assertEqual([letters_along(text, (6, 0)), letters_along(text, (5, 0)), letters_along(text, (0, 1))],
                         [([], [None]), ([], ["b"]), (["a", "b", "a", "b", "a", "b"], [None])])
        self.assertEqual(letters_along(OpenText(1, []), (0, 0)), ([], [None]))
        self.assertEqual(letters_along(OpenText(1, []), (600, FAR)), ([], [None]))
        text = OpenText(1, [("a", (0, 1))])
        self.assertEqual(letters_along(text, (600, 0)), ([None] * 601, ["a"]))
        self.assertEqual(letters_along(text, (600, 1)), ([], [None]))
        text = OpenText(1, [("ab", (0, FAR)), ("c", (1, 0)), ("abcde", (0, FAR + 1))])
        self.check(text, (600, 2), [0])
        self.assertEqual(letters_along(text, (600, 0)), ([None], ["a"]))
        self.assertEqual(letters_along(text, (600, 2 * FAR)), ([None], ["e"]))
        self.assertEqual(letters_along(text, (0, 2 * FAR)), ([], ["c"]))
        self.assertEqual(letters_along(text, (1, 2 * FAR + 1)), ([None], ["b", "c", "d", "e", "a"]))

    def test_near_the_limits(self):
        chance = chances(124)
        pieces = []
        for _ in range(10):
            pieces.extend([(some_word(chance, "abc", 14, 15), (0, chance.randint(1, FAR))), (some_word(chance, "abc", 14, 15), (1, 0))])
        text = OpenText(1, normal(1, pieces))
        for place in [(600, 3), (600, FAR), (0, 15 * FAR), (599, 0)]:
            wheel = letters_along(text, place)
            for count in [0, 1, 2, 600, FAR]:
                word, at = kept(text, [count]), value_at(place, [count])
                self.assertEqual(wheel_value(wheel, count), word.letter(at) if at < word.length() else None)

    def test_wrong_inputs(self):
        text = OpenText(1, [("ab", (0, 1))])
        refused(self, "InvalidText", is_text_along, lambda value: letters_along(value, (0, 0)))
        for many in [0, 2, 3]:
            other = OpenText(many, [])
            told(self, "InvalidText", other, letters_along, other, None)
        refused(self, "InvalidForm", lambda value: isinstance(value, tuple) and len(value) == 2 and all([is_number(item, 0, 10 ** 99) for item in value]),
                lambda value: letters_along(text, value))
        told(self, "InvalidText", None, letters_along, None, None)
        wheel = letters_along(text=text, place=(0, 1))
        wheel[1].append("x")
        self.assertEqual((letters_along(text, (0, 1)), text.pieces()), (([None], ["b", "a"]), [("ab", (0, 1))]))


if __name__ == "__main__":
    unittest.main()
