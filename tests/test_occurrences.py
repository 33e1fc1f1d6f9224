"""[43] to [45]: how often and where a word stands in what open texts write."""

import unittest

from countscribe.growths import growth_value, is_growth
from countscribe.keptorder import kept_place, many_places
from countscribe.occurrences import last_along, missing_at, occurrences, parts_of, place_along, standing_at
from countscribe.pieces import normal
from countscribe.runs import is_run, run_value
from countscribe.texts import OpenText, kept, written
from helper import FAR, all_points, chances, is_number, refused, run_example, small_words, some_pieces, some_text, some_word, told

EXAMPLE = """
from countscribe.occurrences import last_along, missing_at, occurrences, parts_of, place_along, standing_at
from countscribe.texts import OpenText
text, two = OpenText(1, [("ab", (0, 1)), ("c", (1, 0)), ("b", (2, 1))]), OpenText(2, [("a", (0, 1, 0)), ("b", (0, 0, 1))])
[occurrences(text, "b"), occurrences(text, "bb"), occurrences(text, "bc"), occurrences(two, "ab"), occurrences(two, "a")]
# [([0], [2], [2]), ([0], [1], [1]), ([1], [0, 1], [0]), ([1, 1], [0, 0, 0, 1], [0, 0]), ([0, 0], [0], [1, 0])]
[place_along(text, "c", 0), place_along(text, "bc", 0), place_along(text, "ab", 1), last_along(text, "ab", 0)]
# [([], 0, 2), ([None], 1, 2), ([None, None], 2, 0), ([None], 0, 2)]
[standing_at(text, "bc"), missing_at(text, "bc"), missing_at(text, "cb"), standing_at(two, "ab"), missing_at(two, "a"), standing_at(two, "ba")]
# [[1], [0], None, [1, 1], [0, 0], None]
[parts_of(text, 2), parts_of(two, 1)]
# [(['ab', 'ba', 'bb', 'bc', 'cb'], ['bb', 'cb']), (['a', 'b'], [])]
"""


def is_text(value):
    return isinstance(value, OpenText)


def is_text_along(value):
    return isinstance(value, OpenText) and value.many() == 1


def is_part(value):
    return isinstance(value, str) and 1 <= len(value) <= 40 and value.isalpha() and value.isascii() and value.islower()


def plain_places(part, word):
    return [at for at in range(len(word) - len(part) + 1) if word[at:at + len(part)] == part]


def by_sum(points):
    return [point for _, point in sorted([(sum(point), point) for point in points])]


def some_part(chance, text, signs):
    """A word that often stands in what a text writes."""
    word = written(text, [chance.randint(0, 3) for _ in range(text.many())])
    size = chance.randint(1, 4)
    if len(word) >= size and chance.random() < 0.8:
        start = chance.randint(0, len(word) - size)
        return word[start:start + size]
    return some_word(chance, signs, size, size)


class ExampleTest(unittest.TestCase):
    def test_example(self):
        run_example(self, EXAMPLE)


class PlainCheckTest(unittest.TestCase):
    def test_occurrences_standing_and_missing(self):
        chance = chances(140)
        seen = {}
        for _ in range(700):
            many, signs = chance.randint(0, 3), chance.choice(["a", "ab", "abc"])
            text = some_text(chance, many, 4, signs)
            part = some_part(chance, text, signs)
            growth = occurrences(text, part)
            self.assertIs(is_growth(many, growth), True)
            self.assertTrue(all([limit <= len(part) - 1 for limit in growth[0]]))
            found = {}
            for point in all_points(many, len(part) + (2 if many < 3 else 1)):
                found[tuple(point)] = len(plain_places(part, written(text, point)))
                self.assertEqual(growth_value(growth, point), found[tuple(point)], (text.pieces(), part, point))
            far = [10 ** 18 + chance.randint(0, 5) for _ in range(many)]
            self.assertEqual(growth_value(growth, far), many_places(part, kept(text, far)))
            standing = [point for point in by_sum([list(point) for point in found]) if found[tuple(point)]]
            missing = [point for point in by_sum([list(point) for point in found]) if not found[tuple(point)]]
            self.assertEqual(standing_at(text, part), standing[0] if standing else None)
            self.assertEqual(missing_at(text, part), missing[0] if missing else None)
            kind = (not standing, not missing, bool(growth[0]) and max(growth[0]) > 0)
            seen[kind] = seen.get(kind, 0) + 1
        self.assertGreaterEqual(len(seen), 4)

    def test_places_along(self):
        chance = chances(141)
        lists = 0
        for _ in range(700):
            signs = chance.choice(["a", "ab", "abc"])
            text = some_text(chance, 1, 5, signs)
            part, number = some_part(chance, text, signs), chance.choice([0, 0, 1, 2, 3, 7])
            run, last = place_along(text, part, number), last_along(text, part, number)
            for count in range(len(part) + number + 6):
                found = plain_places(part, written(text, [count]))
                self.assertEqual(run_value(run, count), found[number] if number < len(found) else None)
                self.assertEqual(run_value(last, count), found[-1 - number] if number < len(found) else None)
            for found in [run, last]:
                self.assertIs(is_run(found), True)
                self.assertLessEqual(len(found[0]), len(part) + number)
                lists += len(found[0]) > 1
            word = kept(text, [FAR])
            most = many_places(part, word)
            self.assertEqual(run_value(run, FAR), kept_place(part, word, number) if number < most else None)
            self.assertEqual(run_value(last, FAR), kept_place(part, word, most - 1 - number) if number < most else None)
        self.assertGreater(lists, 100)

    def test_parts(self):
        chance = chances(142)
        several = 0
        for _ in range(300):
            many, signs = chance.randint(0, 3), chance.choice(["a", "ab", "ab", "abc"])
            text, size = some_text(chance, many, 4, signs), chance.randint(1, 4 if many < 3 else 3)
            words = [written(text, point) for point in all_points(many, size + 1)]
            rows = [sorted({word[at:at + size] for at in range(len(word) - size + 1)}) for word in words]
            some, every = parts_of(text, size)
            self.assertEqual(some, sorted({part for row in rows for part in row}))
            self.assertEqual(every, [part for part in some if all([part in row for row in rows])])
            self.assertEqual(every, [part for part in some if missing_at(text, part) is None])
            several += len(every) > 1
            for part in small_words(signs, size):
                if len(part) == size:
                    self.assertIs(part in some, standing_at(text, part) is not None)
        self.assertGreater(several, 20)


class EdgesTest(unittest.TestCase):
    def test_no_unknowns_the_empty_text_and_no_power(self):
        text = OpenText(0, [("abab", (1,))])
        self.assertEqual([occurrences(text, "ab"), standing_at(text, "ab"), missing_at(text, "ab"), missing_at(text, "bb"), standing_at(text, "bb")],
                         [([], [2], []), [], None, [], None])
        self.assertEqual([parts_of(text, 3), parts_of(text, 5), parts_of(text, 40)], [(["aba", "bab"], ["aba", "bab"]), ([], []), ([], [])])
        for many in range(4):
            none, zeros = OpenText(many, []), [0] * many
            self.assertEqual(occurrences(none, "a"), (zeros, [0], zeros))
            self.assertEqual([standing_at(none, "a"), missing_at(none, "a"), parts_of(none, 1)], [None, zeros, ([], [])])
            word = OpenText(many, [("aba", (1,) + (0,) * many)])
            self.assertEqual(occurrences(word, "a"), (zeros, [2], zeros))
            self.assertEqual([standing_at(word, "a"), missing_at(word, "a"), parts_of(word, 2)], [zeros, None, (["ab", "ba"], ["ab", "ba"])])
        none = OpenText(1, [])
        self.assertEqual([place_along(none, "a", 0), last_along(none, "a", 100)], [([], None, 0)] * 2)
        word = OpenText(1, [("aba", (1, 0))])
        self.assertEqual([place_along(word, "a", 1), last_along(word, "a", 1), place_along(word, "a", 2)], [([], 2, 0), ([], 0, 0), ([], None, 0)])

    def test_three_unknowns(self):
        text = OpenText(3, [("a", (0, 1, 0, 0)), ("b", (0, 0, 1, 0)), ("c", (0, 0, 0, 1))])
        self.assertEqual(occurrences(text, "abc"), ([1, 2, 1], [0] * 9 + [1, 0, 0], [0, 0, 0]))
        self.assertEqual([standing_at(text, "abc"), standing_at(text, "aacc"), standing_at(text, "ca"), missing_at(text, "a")], [[1, 1, 1], [2, 0, 2], None, [0, 0, 0]])
        self.assertEqual(parts_of(text, 2), (["aa", "ab", "ac", "bb", "bc", "cc"], []))

    def test_great_numbers_at_unknowns(self):
        far = 10 ** 18
        text = OpenText(2, [("ab", (1, far, 1)), ("c", (1, 0, 0)), ("ab", (0, 0, far + 1))])
        self.assertEqual(occurrences(text, "ba"), ([0, 1], [0, far + 1], [far, far + 2]))
        for point in all_points(2, 3) + [[far, far], [0, FAR]]:
            self.assertEqual(growth_value(occurrences(text, "ba"), point), many_places("ba", kept(text, point)))
        text = OpenText(1, [("ab", (1, far)), ("c", (1, 0))])
        self.assertEqual([place_along(text, "c", 0), last_along(text, "ab", 100)], [([], 2, 2 * far), ([None], 2 * far - 200, 2 * far)])
        self.assertEqual(last_along(text, "ab", 0), ([], 0, 2 * far))

    def test_parts_of_1_and_40_letters(self):
        word = "abcdefghij" * 4
        text = OpenText(1, [("abcdefghij", (0, 1)), ("a", (1, 0))])
        self.assertEqual(occurrences(text, word), ([3], [0, 0, 0, 0], [1]))
        self.assertEqual([growth_value(occurrences(text, word), [count]) for count in range(7)], [0, 0, 0, 0, 1, 2, 3])
        self.assertEqual([standing_at(text, word), missing_at(text, word), len(parts_of(text, 40)[0])], [[4], [0], 10])
        self.assertEqual(place_along(text, word, 100), ([None] * 104, 1000, 0))
        self.assertEqual(last_along(text, word, 100), ([None] * 104, 0, 10))
        long = word + "a"
        for call in [occurrences, standing_at, missing_at, lambda text, part: place_along(text, part, 0), lambda text, part: last_along(text, part, 0)]:
            told(self, "InvalidWord", long, call, text, long)
        self.assertEqual(occurrences(OpenText(1, [("a", (0, 1))]), "a" * 40), ([39], [0] * 40, [1]))
        self.assertEqual(place_along(OpenText(1, [("a", (0, 1))]), "a" * 40, 100), ([None] * 140, 100, 0))
        self.assertEqual(last_along(OpenText(1, [("a", (0, 1))]), "a" * 40, 100), ([None] * 140, 0, 1))

    def test_bounds_on_points(self):
        for many, size, total in [(2, 25, 625), (3, 9, 729), (2, 40, 1600), (3, 40, 64000)]:
            text = OpenText(many, [])
            for call in [occurrences, standing_at, missing_at]:
                told(self, "TooMany", total, call, text, "a" * size)
            told(self, "TooMany", total, parts_of, text, size)
        for many, size in [(0, 40), (1, 40), (2, 24), (3, 8)]:
            text = OpenText(many, [("ab", (1,) * (many + 1))])
            self.assertEqual(growth_value(occurrences(text, "ab" * (size // 2)), [0] * many), size == 2)
            self.assertEqual(len(parts_of(text, size)[0]), 2 if many else 0)
            self.assertEqual(standing_at(text, "aa"), None)

    def test_near_the_limits(self):
        chance = chances(143)
        for many, size in [(1, 40), (2, 24), (3, 8)]:
            pieces = []
            for _ in range(10):
                form = (0,) + tuple([chance.randint(0, 10 ** 18) for _ in range(many)])
                pieces.extend([(some_word(chance, "ab", 13, 14), form), (some_word(chance, "ab", 14, 15), (1,) + (0,) * many)])
            text = OpenText(many, normal(many, pieces))
            part = pieces[0][0][:size]
            growth = occurrences(text, part)
            for point in [[0] * many, [1] * many, [FAR] * many]:
                self.assertEqual(growth_value(growth, point), many_places(part, kept(text, point)))
            some, every = parts_of(text, size)
            self.assertTrue(some and all([part in some for part in every]))
            standing_at(text, part), missing_at(text, part)


class WrongInputsTest(unittest.TestCase):
    def test_texts(self):
        for call in [lambda value: occurrences(value, "a"), lambda value: standing_at(value, "a"), lambda value: missing_at(value, "a"),
                     lambda value: parts_of(value, 1)]:
            refused(self, "InvalidText", is_text, call)
        for call in [place_along, last_along]:
            refused(self, "InvalidText", is_text_along, lambda value: call(value, "a", 0))
            for many in [0, 2, 3]:
                other = OpenText(many, [])
                told(self, "InvalidText", other, call, other, None, None)

    def test_parts_and_numbers(self):
        text = OpenText(1, [("ab", (0, 1))])
        for call in [occurrences, standing_at, missing_at, lambda text, part: place_along(text, part, 0), lambda text, part: last_along(text, part, 0)]:
            refused(self, "InvalidWord", is_part, lambda value: call(text, value))
        for call in [place_along, last_along]:
            refused(self, "InvalidNumber", lambda value: is_number(value, 0, 100), lambda value: call(text, "a", value))
            told(self, "InvalidNumber", 101, call, text, "a", 101)
            self.assertTrue(is_run(call(text, "a", 100)))
        refused(self, "InvalidNumber", lambda value: is_number(value, 1, 40), lambda value: parts_of(text, value))
        for value in [0, 41, -1, 10 ** 30]:
            told(self, "InvalidNumber", value, parts_of, OpenText(3, []), value)

    def test_the_first_wrong_argument_is_told(self):
        one, other = [1], [2]
        for call in [occurrences, standing_at, missing_at, parts_of]:
            told(self, "InvalidText", one, call, one, other)
        for call in [place_along, last_along]:
            told(self, "InvalidText", one, call, one, other, -1)
            told(self, "InvalidWord", other, call, OpenText(1, []), other, -1)
        told(self, "InvalidWord", other, occurrences, OpenText(3, []), other)

    def test_by_names_and_texts_stay(self):
        text = OpenText(1, [("ab", (0, 1))])
        growth = occurrences(text=text, part="ba")
        growth[0].append(1), growth[1].append(1), growth[2].append(1)
        some, every = parts_of(text=text, number=1)
        some.append("x"), every.append("x")
        run = place_along(text=text, part="ba", number=0)
        run[0].append(1)
        self.assertEqual(last_along(text=text, part="ba", number=0), ([None, None], 1, 2))
        self.assertEqual([standing_at(text=text, part="ba"), missing_at(text=text, part="ba")], [[2], [0]])
        self.assertEqual([occurrences(text, "ba"), parts_of(text, 1), place_along(text, "ba", 0)], [([1], [0, 0], [1]), (["a", "b"], []), ([None, None], 1, 0)])
        self.assertEqual(text.pieces(), [("ab", (0, 1))])

    def test_random_texts_stay(self):
        chance = chances(144)
        for _ in range(50):
            text = OpenText(1, some_pieces(chance, 1, 4))
            before = text.pieces()
            occurrences(text, "ab"), parts_of(text, 2), place_along(text, "ab", 1), last_along(text, "ab", 1)
            self.assertEqual(text.pieces(), before)


if __name__ == "__main__":
    unittest.main()
