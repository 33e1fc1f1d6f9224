"""[16] and [17]: lists of pieces and their normal lists."""

import unittest
from itertools import product

from countscribe.pieces import is_normal, normal
from helper import FAR, answered_false, chances, is_number, refused, run_example, some_pieces, strange_values, told, word_at

EXAMPLE = """
from countscribe.pieces import is_normal, normal
normal(1, [("ab", (1, 0)), ("ab", (0, 2)), ("abab", (1, 1))])
# [('ab', (0, 4)), ('ababab', (1, 0))]
normal(1, [("xa", (1, 0)), ("ba", (1, 1)), ("", (7, 7)), ("c", (0, 0))])
# [('x', (1, 0)), ('ab', (0, 1)), ('aba', (1, 0))]
normal(2, [("ab", (0, 1, 0)), ("ab", (1, 0, 0)), ("b", (0, 0, 1))])
# [('ab', (0, 1, 0)), ('a', (1, 0, 0)), ('b', (0, 0, 1)), ('b', (1, 0, 0))]
[is_normal(1, [("ab", (0, 1)), ("a", (1, 0))]), is_normal(1, [("b", (1, 0)), ("ab", (0, 1))]), is_normal(0, [])]
# [True, False, True]
"""


def is_root(word):
    return not any([word[:k] * (len(word) // k) == word for k in range(1, len(word))])


def is_normal_plainly(many, pieces):
    """Whether a list of pieces is normal, row by row as [17] says."""
    fixed, power = [], []
    for word, form in pieces:
        fixed.append(word != "" and form == (1,) + (0,) * many)
        power.append(word != "" and is_root(word) and form[0] == 0 and any(form[1:]))
        if not fixed[-1] and not power[-1]:
            return False
    for at in range(len(pieces) - 1):
        (one, _), (other, _) = pieces[at], pieces[at + 1]
        if fixed[at] and (fixed[at + 1] or one[-1] == other[-1]):
            return False
        if power[at] and power[at + 1] and one == other:
            return False
    return True


def one_step(many, pieces, chance):
    """A list of pieces after some step of [17], None if none can be taken."""
    found = []
    one = (1,) + (0,) * many
    for at, (word, form) in enumerate(pieces):
        ahead, behind = pieces[:at], pieces[at + 1:]
        stands = any(form[1:])
        if word == "" or not any(form):
            found.append(ahead + behind)
            continue
        if stands and not is_root(word):
            size = min([k for k in range(1, len(word)) if len(word) % k == 0 and word[:k] * (len(word) // k) == word])
            found.append(ahead + [(word[:size], tuple([number * (len(word) // size) for number in form]))] + behind)
        if stands and form[0]:
            found.append(ahead + [(word, (0,) + form[1:]), (word * form[0], one)] + behind)
        if not stands and form[0] > 1:
            found.append(ahead + [(word * form[0], one)] + behind)
        if behind:
            later, later_form = behind[0]
            if form == one and later_form == one:
                found.append(ahead + [(word + later, one)] + behind[1:])
            if stands and any(later_form[1:]) and word == later:
                both = tuple([a + b for a, b in zip(form, later_form)])
                found.append(ahead + [(word, both)] + behind[1:])
            if form == one and later and any(later_form[1:]) and later_form[0] == 0 and word[-1] == later[-1]:
                moved = [(word[:-1], one), (later[-1] + later[:-1], later_form), (later[-1], one)]
                found.append(ahead + moved + behind[1:])
    return chance.choice(found) if found else None


def is_good_piece(many, item):
    if not isinstance(item, tuple) or len(item) != 2 or not isinstance(item[0], str) or len(item[0]) > 2000:
        return False
    if not all(["a" <= letter <= "z" for letter in item[0]]):
        return False
    form = item[1]
    return isinstance(form, tuple) and len(form) == many + 1 and all([is_number(number, 0, 10 ** 99) for number in form])


class ExampleTest(unittest.TestCase):
    def test_example(self):
        run_example(self, EXAMPLE)


class PlainCheckTest(unittest.TestCase):
    def test_normal_writes_the_same_and_is_normal(self):
        chance = chances(12)
        for _ in range(2000):
            many = chance.randint(0, 3)
            pieces = some_pieces(chance, many, 6)
            found = normal(many, pieces)
            self.assertTrue(is_normal_plainly(many, found), pieces)
            self.assertIs(is_normal(many, found), True)
            self.assertEqual(normal(many, found), found)
            for point in product(range(3), repeat=many):
                self.assertEqual(word_at(found, point), word_at(pieces, point))

    def test_steps_in_any_order_lead_to_the_same_list(self):
        chance = chances(13)
        for _ in range(600):
            many = chance.randint(1, 2)
            start = some_pieces(chance, many, 5)
            pieces, last = start, None
            while pieces is not None:
                last, pieces = pieces, one_step(many, pieces, chance)
            self.assertEqual(normal(many, start), last)

    def test_lists_that_write_the_same_have_one_normal_list(self):
        chance = chances(14)
        by_words = {}
        points = {many: list(product(range(6), repeat=many)) for many in (1, 2)}
        same = 0
        for _ in range(6000):
            many = chance.choice([1, 1, 2])
            pieces = some_pieces(chance, many, 3)
            key = (many,) + tuple([word_at(pieces, point) for point in points[many]])
            found = normal(many, pieces)
            same += key in by_words and by_words[key][0] != pieces
            self.assertEqual(by_words.setdefault(key, (pieces, found))[1], found, (pieces, by_words[key]))
        self.assertGreater(same, 500)
        kinds = [repr((key[0], rest[1])) for key, rest in by_words.items()]
        self.assertEqual(len(set(kinds)), len(kinds))

    def test_whether_a_list_is_normal(self):
        chance = chances(15)
        seen = {True: 0, False: 0}
        for _ in range(4000):
            many = chance.randint(0, 2)
            pieces = some_pieces(chance, many, 3)
            if chance.random() < 0.7:
                one = (1,) + (0,) * many
                pieces = [(word, chance.choice([one, (0,) + form[1:]])) for word, form in pieces]
            expected = is_normal_plainly(many, pieces)
            self.assertIs(is_normal(many, pieces), expected, pieces)
            seen[expected] += 1
        self.assertGreater(min(seen.values()), 300)


class EdgesTest(unittest.TestCase):
    def test_no_pieces_and_pieces_that_write_nothing(self):
        for many in range(4):
            zeros, ones = (0,) * (many + 1), (1,) * (many + 1)
            self.assertEqual(normal(many, []), [])
            self.assertEqual(normal(many, [("", ones), ("abc", zeros), ("", zeros)]), [])
            self.assertIs(is_normal(many, []), True)
            self.assertIs(is_normal(many, [("", ones)]), False)
            self.assertIs(is_normal(many, [("abc", zeros)]), False)

    def test_no_unknowns(self):
        self.assertEqual(normal(0, [("ab", (2,)), ("", (5,)), ("c", (1,))]), [("ababc", (1,))])
        self.assertIs(is_normal(0, [("ababc", (1,))]), True)
        self.assertIs(is_normal(0, [("ab", (2,))]), False)

    def test_three_unknowns(self):
        pieces = [("a", (0, 1, 0, 0)), ("a", (0, 0, 1, 0)), ("b", (0, 0, 0, 1)), ("ab", (1, 1, 1, 1))]
        self.assertEqual(normal(3, pieces), [("a", (0, 1, 1, 0)), ("b", (0, 0, 0, 1)), ("ab", (0, 1, 1, 1)), ("ab", (1, 0, 0, 0))])

    def test_pieces_that_meet_when_one_between_goes(self):
        self.assertEqual(normal(1, [("ab", (0, 1)), ("c", (0, 0)), ("ab", (0, 2))]), [("ab", (0, 3))])
        self.assertEqual(normal(1, [("ab", (0, 1)), ("ab", (1, 0)), ("ab", (0, 2))]), [("ab", (0, 3)), ("ab", (1, 0))])
        self.assertEqual(normal(1, [("ab", (0, 1)), ("a", (1, 0)), ("ba", (0, 2))]), [("ab", (0, 3)), ("a", (1, 0))])
        self.assertEqual(normal(1, [("a", (0, 1)), ("ab" * 3, (1, 0)), ("b", (0, 1))]),
                         [("a", (0, 1)), ("ababa", (1, 0)), ("b", (0, 1)), ("b", (1, 0))])

    def test_far_numbers_at_unknowns(self):
        self.assertEqual(normal(1, [("abab", (1, FAR)), ("ab", (0, 1))]), [("ab", (0, 2 * FAR + 1)), ("abab", (1, 0))])
        self.assertEqual(normal(1, [("", (FAR, FAR)), ("a", (0, 10 ** 39))]), [("a", (0, 10 ** 39))])

    def test_bounds_of_the_number_of_pieces(self):
        self.assertEqual(normal(1, [("", (1, 1))] * 4999 + [("a", (0, 1))]), [("a", (0, 1))])
        pieces = [("", (1, 1))] * 5001
        told(self, "InvalidPieces", pieces, normal, 1, pieces)
        pieces = [None] * 5001
        told(self, "InvalidPieces", pieces, normal, 1, pieces)
        told(self, "InvalidPiece", None, normal, 1, [None] * 5000)
        self.assertIs(is_normal(1, pieces), False)
        self.assertEqual(normal(1, [("ab" * 1000, (0, 0))] * 5000), [])
        pieces = [("a", (0, 1)), ("b", (1, 0))] * 2501
        told(self, "InvalidPieces", pieces, normal, 1, pieces)
        told(self, "TooLong", 5000, normal, 1, pieces[2:])

    def test_bounds_of_the_measure(self):
        self.assertEqual(normal(1, [("a", (2000, 0))]), [("a" * 2000, (1, 0))])
        self.assertEqual(normal(1, [("a", (1999, 1))]), [("a", (0, 1)), ("a" * 1999, (1, 0))])
        told(self, "TooLong", 2001, normal, 1, [("a", (2000, 1))])
        told(self, "TooLong", 2001, normal, 1, [("a" * 2000, (1, 0)), ("b", (1, 0))])
        told(self, "TooLong", 2002, normal, 1, [("ab", (0, 1))] * 1001)
        self.assertEqual(normal(1, [("ab", (0, 1))] * 1000), [("ab", (0, 1000))])
        told(self, "TooLong", 10 ** 39, normal, 0, [("a", (10 ** 39,))])
        told(self, "TooLong", 3 * 10 ** 39 + 3, normal, 1, [("abc", (10 ** 39, 5))])
        self.assertIs(is_normal(1, [("a" * 2000, (1, 0))]), True)
        self.assertIs(is_normal(1, [("ab" * 999 + "a", (0, 1)), ("b", (1, 0))]), True)
        self.assertIs(is_normal(1, [("ab" * 999 + "a", (0, 1)), ("bb", (1, 0))]), False)
        self.assertIs(is_normal(1, [("a" * 1999 + "b", (0, 1))]), True)
        self.assertIs(is_normal(1, [("a" * 1999 + "b", (0, 1)), ("b", (1, 0))]), False)
        self.assertIs(is_normal(1, [("b" + "a" * 1998, (0, 1)), ("a", (0, 1))]), True)

    def test_words_of_2000_letters(self):
        word = "a" * 1999 + "b"
        self.assertEqual(normal(1, [(word, (0, 1))]), [(word, (0, 1))])
        item = (word + "a", (0, 0))
        told(self, "InvalidPiece", item, normal, 1, [item])
        self.assertIs(is_normal(1, [(word + "a", (0, 1))]), False)

    def test_many_moves(self):
        self.assertEqual(normal(1, [("ab" * 500, (1, 0)), ("ab" * 499 + "ab", (0, 1))]), [("ab", (0, 500)), ("ab" * 500, (1, 0))])
        pieces = [("a", (1, 0)), ("a", (0, 1))] * 1000
        self.assertEqual(normal(1, pieces), [("a", (0, 1000)), ("a" * 1000, (1, 0))])
        pieces = [("b", (0, 1)), ("a", (1, 0)), ("ba", (0, 1))] * 300
        self.assertTrue(is_normal_plainly(1, normal(1, pieces)))

    def test_by_names(self):
        self.assertEqual(normal(many=0, pieces=[("a", (2,))]), [("aa", (1,))])
        self.assertIs(is_normal(many=0, value=[]), True)


class NothingElseChangesTest(unittest.TestCase):
    def test_arguments_stay_and_results_are_new(self):
        pieces = [("ab", (0, 1)), ("a", (1, 0))]
        found = normal(1, pieces)
        self.assertEqual(found, pieces)
        self.assertIsNot(found, pieces)
        found.append(None)
        self.assertEqual(pieces, [("ab", (0, 1)), ("a", (1, 0))])
        self.assertEqual(normal(1, pieces), pieces)
        self.assertIs(is_normal(1, pieces), True)
        pieces = [("b", (1, 0)), ("ab", (2, 1))]
        normal(1, pieces)
        is_normal(1, pieces)
        self.assertEqual(pieces, [("b", (1, 0)), ("ab", (2, 1))])


class WrongInputsTest(unittest.TestCase):
    def test_numbers_of_unknowns(self):
        refused(self, "InvalidNumber", lambda value: is_number(value, 0, 3), lambda value: normal(value, []))
        refused(self, "InvalidNumber", lambda value: is_number(value, 0, 3), lambda value: is_normal(value, []))
        told(self, "InvalidNumber", 4, normal, 4, [])

    def test_lists(self):
        refused(self, "InvalidPieces", lambda value: isinstance(value, list), lambda value: normal(1, value))
        pieces = (("a", (0, 1)),)
        told(self, "InvalidPieces", pieces, normal, 1, pieces)

    def test_pieces(self):
        for many in range(4):
            for item in strange_values():
                if not is_good_piece(many, item):
                    told(self, "InvalidPiece", item, normal, many, [("a", (0,) * (many + 1)), item, 7])
        for item in [["a", (0, 1)], ("a", [0, 1]), ("a", (0,)), ("a", (0, 1, 2)), ("a", (0, True)), ("a", (0, -1)), ("A", (0, 1)),
                     ("a", (0, 1), 1), (1, (0, 1)), ((0, 1), "a"), ("a", 1), ("a", None), (None, (0, 1))]:
            told(self, "InvalidPiece", item, normal, 1, [item])
            self.assertIs(is_normal(1, [item]), False)

    def test_whether_a_value_is_a_normal_list(self):
        for many in range(4):
            answered_false(self, lambda value: value == [] or (many == 0 and value == [("a", (1,))]), lambda value: is_normal(many, value))
        self.assertIs(is_normal(1, (("ab", (0, 1)),)), False)

    def test_the_first_wrong_one_is_told(self):
        told(self, "InvalidNumber", None, normal, None, None)
        told(self, "InvalidNumber", -1, is_normal, -1, None)
        told(self, "InvalidPiece", 3, normal, 1, [("a", (5000, 0)), 3, 4])
        item = ("a", (1,))
        told(self, "InvalidPiece", item, normal, 1, [("a", (5000, 0)), item])


if __name__ == "__main__":
    unittest.main()
