"""[18] to [21]: open texts."""

import unittest

from countscribe.kept import KeptWord
from countscribe.pieces import is_normal, normal
from countscribe.texts import (
    OpenText, joined, kept, length, letters, mapped, mirrored, repeated, replaced, size, spread, unknowns, written,
)
from helper import (
    FAR, all_points, chances, is_number, refused, run_example, some_pieces, some_text, strange_values, told, value_at, word_at,
)

EXAMPLE = """
from countscribe.texts import OpenText, joined, kept, length, letters, mapped, mirrored, repeated, replaced, size, spread, written
text = OpenText(2, [("ab", (1, 1, 0)), ("b", (0, 0, 3))])
[text.pieces(), written(text, [2, 1]), length(text), letters(text, "b"), size(text), spread(text)]
# [[('ab', (0, 1, 0)), ('a', (1, 0, 0)), ('b', (0, 0, 3)), ('b', (1, 0, 0))], 'abababbbb', (2, 2, 3), (1, 1, 3), 5, 4]
[OpenText(1, [("a", (1, 0)), ("ba", (0, 1))]) == OpenText(1, [("ab", (0, 1)), ("a", (1, 0))]), kept(text, [10 ** 20, 0]).length()]
# [True, 200000000000000000002]
[mirrored(text).pieces(), mapped(text, {"b": ""}).pieces(), replaced(text, 1, [(1, 2), (0, 0)]).pieces()]
# [[('b', (0, 0, 3)), ('ba', (0, 1, 0)), ('ba', (1, 0, 0))], [('a', (0, 1, 0)), ('a', (1, 0, 0))], [('ab', (0, 2)), ('abab', (1, 0))]]
[joined(text, text) == repeated(text, 2), repeated(text, 0).pieces(), repeated(OpenText(1, []), 10 ** 39).pieces()]
# [True, [], []]
"""


def is_text(value):
    return isinstance(value, OpenText)


def is_point(given, many):
    return isinstance(given, list) and len(given) == many and all([is_number(number, 0, 10 ** 99) for number in given])


def powers_of(pieces):
    return [(word, form) for word, form in pieces if any(form[1:])]


class ExampleTest(unittest.TestCase):
    def test_example(self):
        run_example(self, EXAMPLE)


class PlainCheckTest(unittest.TestCase):
    def test_texts_and_what_is_told_of_them(self):
        chance = chances(20)
        for _ in range(600):
            many = chance.randint(0, 3)
            pieces = some_pieces(chance, many, 5)
            text = OpenText(many, pieces)
            found = text.pieces()
            self.assertEqual((text.many(), found), (many, normal(many, pieces)))
            powers = powers_of(found)
            self.assertEqual(size(text), sum([len(word) for word, _ in found]))
            self.assertEqual(spread(text), 1 + max([number for _, form in powers for number in form[1:]], default=0))
            self.assertEqual(unknowns(text), [k for k in range(many) if [1 for _, form in powers if form[k + 1]]])
            for point in all_points(many, 2):
                word = word_at(pieces, point)
                self.assertEqual(written(text, point), word)
                self.assertEqual(kept(text, point).plain(), word)
                self.assertEqual(kept(text, point).pieces(), KeptWord([(own, value_at(form, point)) for own, form in found]).pieces())
                self.assertEqual(value_at(length(text), point), len(word))
                for letter in "abc":
                    self.assertEqual(value_at(letters(text, letter), point), word.count(letter))
            self.assertEqual((len(length(text)), len(letters(text, "z"))), (many + 1, many + 1))

    def test_equal_exactly_if_they_write_the_same(self):
        chance = chances(21)
        seen = {True: 0, False: 0}
        for _ in range(4000):
            many = chance.choice([1, 1, 2])
            one, other = some_pieces(chance, many, 2), some_pieces(chance, many, 2)
            same = all([word_at(one, point) == word_at(other, point) for point in all_points(many, 4)])
            self.assertIs(OpenText(many, one) == OpenText(many, other), same)
            self.assertIs(OpenText(many, one) != OpenText(many, other), not same)
            seen[same] += 1
        self.assertGreater(min(seen.values()), 50)

    def test_new_texts(self):
        chance = chances(22)
        for _ in range(400):
            many, more = chance.randint(0, 3), chance.randint(0, 3)
            one, other = some_text(chance, many, 4), some_text(chance, many, 4)
            times = chance.randint(0, 3)
            images = {letter: chance.choice(["", "a", "ab", "cc"]) for letter in chance.choice(["", "a", "ab", "bz"])}
            forms = [tuple([chance.choice([0, 0, 1, 2]) for _ in range(more + 1)]) for _ in range(many)]
            made = replaced(one, more, forms)
            for result in [joined(one, other), repeated(one, times), mirrored(one), mapped(one, images)]:
                self.assertIsInstance(result, OpenText)
                self.assertEqual(result.many(), many)
                self.assertIs(is_normal(many, result.pieces()), True)
            self.assertEqual(made.many(), more)
            self.assertIs(is_normal(more, made.pieces()), True)
            for point in all_points(many, 1) + [[2] * many]:
                left, right = written(one, point), written(other, point)
                self.assertEqual(written(joined(one, other), point), left + right)
                self.assertEqual(written(repeated(one, times), point), left * times)
                self.assertEqual(written(mirrored(one), point), left[::-1])
                self.assertEqual(written(mapped(one, images), point), "".join([images.get(letter, letter) for letter in left]))
            for point in all_points(more, 2):
                self.assertEqual(written(made, point), written(one, [value_at(form, point) for form in forms]))


class EdgesTest(unittest.TestCase):
    def test_the_empty_text(self):
        for many in range(4):
            text = OpenText(many, [])
            self.assertEqual((text.pieces(), size(text), spread(text), unknowns(text)), ([], 0, 1, []))
            self.assertEqual((written(text, [5] * many), kept(text, [FAR] * many).length()), ("", 0))
            self.assertEqual((length(text), letters(text, "a")), ((0,) * (many + 1), (0,) * (many + 1)))
            for result in [joined(text, text), repeated(text, 10 ** 39), mirrored(text), mapped(text, {"a": "b"})]:
                self.assertEqual((result.many(), result.pieces()), (many, []))
            self.assertEqual(replaced(text, 2, [(1, 1, 1)] * many).pieces(), [])
            self.assertEqual(OpenText(many, [("", (5,) * (many + 1)), ("a", (0,) * (many + 1))]), text)

    def test_texts_without_a_power(self):
        for many in [0, 3]:
            text = OpenText(many, [("ab", (3,) + (0,) * many)])
            self.assertEqual((size(text), spread(text), unknowns(text), length(text)), (6, 1, [], (6,) + (0,) * many))
            self.assertEqual(written(text, [7] * many), "ababab")

    def test_equal_texts_have_equally_many_unknowns(self):
        self.assertIs(OpenText(0, []) == OpenText(1, []), False)
        self.assertIs(OpenText(0, []) != OpenText(1, []), True)
        self.assertIs(OpenText(1, []) == OpenText(1, []), True)
        for other in strange_values():
            self.assertIs(OpenText(2, []) == other, False)
            self.assertIs(other == OpenText(2, []), False)
            self.assertIs(OpenText(2, []) != other, True)

    def test_far_numbers(self):
        for far in [10 ** 18, 10 ** 29 - 1]:
            text = OpenText(3, [("ab", (1, far, 0, 1)), ("c", (0, 0, 0, far))])
            self.assertEqual((size(text), spread(text), unknowns(text)), (5, far + 1, [0, 2]))
            self.assertEqual((length(text), letters(text, "a")), ((2, 2 * far, 0, far + 2), (1, far, 0, 1)))
            found = kept(text, [10 ** 29, 1, 10 ** 29])
            self.assertEqual(found.length(), 2 + 2 * far * 10 ** 29 + (far + 2) * 10 ** 29)
            self.assertEqual(found.pieces(), [("ab", far * 10 ** 29 + 10 ** 29 + 1), ("c", far * 10 ** 29)])
            told(self, "TooLong", 2 + 2 * far, written, text, [1, 0, 0])
            self.assertEqual(written(text, [0, 10 ** 29, 0]), "ab")
            text = OpenText(1, [("a", (0, far)), ("b", (0, far))])
            self.assertEqual(replaced(text, 1, [(0, far)]).pieces(), [("a", (0, far * far)), ("b", (0, far * far))])
            told(self, "TooLong", 2 * far * 7 + 2, replaced, text, 1, [(7, 1)])

    def test_bounds_of_written(self):
        text = OpenText(1, [("ab", (0, 1)), ("c", (1, 0))])
        self.assertEqual(written(text, [9999]), "ab" * 9999 + "c")
        told(self, "TooLong", 20001, written, text, [10000])
        self.assertEqual(written(OpenText(1, [("a", (0, 1))]), [20000]), "a" * 20000)
        told(self, "TooLong", 20001, written, OpenText(1, [("a", (0, 1))]), [20001])
        self.assertEqual(kept(text, [10000]).length(), 20001)

    def test_unknowns_of_fixed_pieces_and_of_powers(self):
        text = OpenText(3, [("a", (0, 0, 0, 2)), ("b", (7, 0, 0, 0)), ("c", (0, 1, 0, 0))])
        self.assertEqual((unknowns(text), spread(text)), ([0, 2], 3))

    def test_letters(self):
        text = OpenText(1, [("aab", (1, 2))])
        self.assertEqual([letters(text, letter) for letter in "abz"], [(2, 4), (1, 2), (0, 0)])

    def test_images(self):
        text = OpenText(1, [("ab", (1, 1))])
        self.assertEqual(mapped(text, {}), text)
        self.assertEqual(mapped(text, {"a": "", "b": ""}).pieces(), [])
        self.assertEqual(mapped(text, {"a": "b", "b": "a"}).pieces(), [("ba", (0, 1)), ("ba", (1, 0))])
        self.assertEqual(mapped(text, {"a": "ab", "b": "ab"}).pieces(), [("ab", (0, 2)), ("abab", (1, 0))])
        self.assertEqual(mapped(text, {"z": "q"}), text)
        long = "a" * 39 + "b"
        self.assertEqual(mapped(OpenText(0, [("c", (1,))]), {"c": long}).pieces(), [(long, (1,))])
        for images in [{"c": long + "a"}, {"a": "a" * 41}]:
            told(self, "InvalidImages", images, mapped, text, images)

    def test_methods_stand_in_the_class(self):
        for name in ["many", "pieces", "__eq__"]:
            self.assertIn(name, vars(OpenText))
        for call in [OpenText, size, spread, unknowns, written, kept, length, letters, joined, repeated, mirrored, mapped, replaced]:
            self.assertEqual(call.__module__, "countscribe.texts")

    def test_by_names(self):
        text = OpenText(many=1, pieces=[("ab", (0, 1))])
        self.assertEqual([size(text=text), spread(text=text), unknowns(text=text), written(text=text, point=[1])], [2, 2, [0], "ab"])
        self.assertEqual([kept(text=text, point=[2]).plain(), length(text=text), letters(text=text, letter="a")], ["abab", (0, 2), (0, 1)])
        self.assertEqual([joined(one=text, other=text) == repeated(text=text, times=2), mirrored(text=text).pieces()],
                         [True, [("ba", (0, 1))]])
        self.assertEqual(mapped(text=text, images={"a": "b"}).pieces(), [("b", (0, 2))])
        self.assertEqual(replaced(text=text, many=0, forms=[(1,)]).pieces(), [("ab", (1,))])


class MeasureTest(unittest.TestCase):
    """A measure of 2,000 passes everywhere, one of 2,001 does not."""

    def test_open_text(self):
        self.assertEqual(size(OpenText(1, [("a", (1999, 1))])), 2000)
        told(self, "TooLong", 2001, OpenText, 1, [("a", (2000, 1))])
        told(self, "TooLong", 10 ** 39 + 1, OpenText, 1, [("a", (10 ** 39, 1))])

    def test_joined(self):
        text = OpenText(1, [("ab", (499, 1))])
        both = joined(text, OpenText(1, [("cd", (499, 1))]))
        self.assertEqual((size(text), size(both), size(joined(both, OpenText(1, [])))), (1000, 2000, 2000))
        told(self, "TooLong", 2001, joined, both, OpenText(1, [("c", (1, 0))]))
        told(self, "TooLong", 4000, joined, both, both)
        self.assertEqual(size(joined(text, text)), 1998)
        power = OpenText(1, [("a", (1000, 1))])
        told(self, "TooLong", 2002, joined, power, power)
        self.assertEqual(joined(OpenText(1, [("a", (999, 1))]), OpenText(1, [("a", (999, 1))])).pieces(), [("a", (0, 2)), ("a" * 1998, (1, 0))])

    def test_repeated(self):
        text = OpenText(1, [("a", (1, 1)), ("b", (0, 1))])
        self.assertEqual(size(repeated(text, 666)), 1998)
        told(self, "TooLong", 2001, repeated, text, 667)
        told(self, "TooLong", 3 * 10 ** 39, repeated, text, 10 ** 39)
        self.assertEqual(repeated(text, 0).pieces(), [])
        self.assertEqual(repeated(OpenText(1, [("a", (0, 1))]), 2000).pieces(), [("a", (0, 2000))])
        told(self, "TooLong", 2001, repeated, OpenText(1, [("a", (0, 1))]), 2001)
        self.assertEqual(repeated(OpenText(0, [("a" * 2000, (1,))]), 1).pieces(), [("a" * 2000, (1,))])

    def test_mirrored(self):
        text = OpenText(1, [("ab", (999, 1))])
        self.assertEqual(size(mirrored(text)), 2000)
        self.assertEqual(mirrored(mirrored(text)), text)

    def test_mapped(self):
        text = OpenText(1, [("ab", (49, 1))])
        self.assertEqual(size(mapped(text, {"a": "c" * 39 + "d", "b": ""})), 2000)
        told(self, "TooLong", 2050, mapped, text, {"a": "c" * 40, "b": "d"})
        text = OpenText(1, [("a", (49, 1)), ("b", (1, 0))])
        self.assertEqual(size(mapped(text, {"a": "d" * 39 + "c", "b": ""})), 2000)
        told(self, "TooLong", 2001, mapped, text, {"a": "d" * 39 + "c"})
        told(self, "TooLong", 80000, mapped, OpenText(0, [("a" * 2000, (1,))]), {"a": "b" * 40})
        # The measure is that of the pieces that are put together, not that of the result.
        told(self, "TooLong", 2040, mapped, OpenText(1, [("a", (50, 1))]), {"a": "b" * 40})

    def test_replaced(self):
        text = OpenText(1, [("ab", (0, 1)), ("c", (0, 1))])
        self.assertEqual(size(replaced(text, 0, [(666,)])), 1998)
        told(self, "TooLong", 2001, replaced, text, 0, [(667,)])
        told(self, "TooLong", 3 * 10 ** 39 + 3, replaced, text, 1, [(10 ** 39, 1)])
        text = OpenText(1, [("ab", (0, 1))])
        self.assertEqual(size(replaced(text, 1, [(999, 1)])), 2000)
        told(self, "TooLong", 2002, replaced, text, 1, [(1000, 1)])
        self.assertEqual(replaced(text, 2, [(0, 0, 0)]).pieces(), [])


class NothingElseChangesTest(unittest.TestCase):
    def test_lists_and_dictionaries_belong_to_the_caller(self):
        pieces = [("ab", (1, 1)), ("c", (0, 2))]
        text = OpenText(1, pieces)
        self.assertEqual(pieces, [("ab", (1, 1)), ("c", (0, 2))])
        pieces.clear()
        expected = [("ab", (0, 1)), ("ab", (1, 0)), ("c", (0, 2))]
        self.assertEqual(text.pieces(), expected)
        text.pieces().clear()
        found = text.pieces()
        found[0] = None
        self.assertEqual((text.pieces(), size(text), written(text, [1])), (expected, 5, "ababcc"))
        point, images, forms = [2], {"a": "b"}, [(1, 2)]
        written(text, point), kept(text, point), mapped(text, images), replaced(text, 1, forms)
        self.assertEqual((point, images, forms), ([2], {"a": "b"}, [(1, 2)]))
        unknowns(text).append(9)
        self.assertEqual(unknowns(text), [0])

    def test_texts_do_not_change(self):
        text, other = OpenText(1, [("ab", (1, 1))]), OpenText(1, [("c", (0, 1))])
        results = [joined(text, other), repeated(text, 1), mirrored(text), mapped(text, {}), replaced(text, 1, [(0, 1)])]
        for result in results:
            result.pieces().append(None)
        kept(text, [1]).pieces().clear()
        self.assertEqual(results[0].pieces(), [("ab", (0, 1)), ("ab", (1, 0)), ("c", (0, 1))])
        self.assertEqual((text.pieces(), other.pieces()), ([("ab", (0, 1)), ("ab", (1, 0))], [("c", (0, 1))]))
        images = {"a": "b"}
        made = mapped(text, images)
        images["b"] = "c"
        self.assertEqual(made.pieces(), [("b", (0, 2)), ("bb", (1, 0))])


class WrongInputsTest(unittest.TestCase):
    def test_open_text(self):
        refused(self, "InvalidNumber", lambda value: is_number(value, 0, 3), lambda value: OpenText(value, []))
        refused(self, "InvalidPieces", lambda value: isinstance(value, list), lambda value: OpenText(1, value))
        for item in [None, True, 1, "a", [], ("a",), ("a", 1), ("a", (1,)), ("A", (1, 0)), ("a", (1, True)), ["a", (1, 0)], OpenText(1, [])]:
            told(self, "InvalidPiece", item, OpenText, 1, [("a", (1, 0)), item])
        told(self, "InvalidNumber", 4, OpenText, 4, None)
        pieces = [("", (0, 0))] * 5001
        told(self, "InvalidPieces", pieces, OpenText, 1, pieces)
        self.assertEqual(OpenText(1, [("", (0, 0))] * 5000).pieces(), [])

    def test_texts(self):
        text = OpenText(1, [("a", (0, 1))])
        for call in [size, spread, unknowns, length, mirrored]:
            refused(self, "InvalidText", is_text, call)
        for call in [lambda value: written(value, []), lambda value: kept(value, []), lambda value: letters(value, "a"),
                     lambda value: joined(value, text), lambda value: joined(text, value), lambda value: repeated(value, 1),
                     lambda value: mapped(value, {}), lambda value: replaced(value, 1, [])]:
            refused(self, "InvalidText", is_text, call)
        for other in [OpenText(0, []), OpenText(2, [])]:
            told(self, "Unlike", other, joined, text, other)

    def test_points(self):
        for many in range(4):
            text = OpenText(many, [("a", (0,) + (1,) * many)])
            for call in [written, kept]:
                refused(self, "InvalidPoint", lambda value: is_point(value, many), lambda value: call(text, value))
                point = (1,) * many
                told(self, "InvalidPoint", point, call, text, point)

    def test_other_arguments(self):
        text = OpenText(1, [("a", (0, 1))])
        refused(self, "InvalidWord", lambda value: value == "a", lambda value: letters(text, value))
        for value in ["", "ab", "A", "1", "\n"]:
            told(self, "InvalidWord", value, letters, text, value)
        refused(self, "InvalidNumber", lambda value: is_number(value, 0, 10 ** 99), lambda value: repeated(text, value))
        refused(self, "InvalidImages", lambda value: value == {} or value == {"a": "b"}, lambda value: mapped(text, value))
        for images in [{"ab": ""}, {"A": ""}, {"a": None}, {"a": "B"}, {"a": ["b"]}, {None: "a"}, {"a": "b", "c": 1}, {1: "a", "b": "c"}]:
            told(self, "InvalidImages", images, mapped, text, images)
        refused(self, "InvalidNumber", lambda value: is_number(value, 0, 3), lambda value: replaced(text, value, [(0,)]))
        for value in strange_values() + [[(1,)], [(1, 2, 3)], [(0, 1), (0, 1)], [[0, 1]], ((0, 1),), [(0, True)], [(0, -1)]]:
            told(self, "InvalidList", value, replaced, text, 1, value)

    def test_the_first_wrong_argument_is_told(self):
        text = OpenText(1, [("a", (0, 1))])
        told(self, "InvalidText", None, joined, None, 5)
        told(self, "InvalidText", 5, joined, OpenText(2, []), 5)
        told(self, "InvalidText", None, written, None, None)
        told(self, "InvalidText", None, repeated, None, -1)
        told(self, "InvalidText", "a", letters, "a", "A")
        told(self, "InvalidText", 1, mapped, 1, 1)
        told(self, "InvalidText", 1, replaced, 1, 9, None)
        told(self, "InvalidNumber", 9, replaced, text, 9, None)
        point = []
        told(self, "InvalidPoint", point, written, OpenText(1, [("a", (10, 10 ** 20))]), point)


if __name__ == "__main__":
    unittest.main()
