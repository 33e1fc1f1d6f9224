"""[9] and [10]: kept words."""

import unittest

from countscribe import errors
from countscribe.kept import KeptWord, joined_kept, mirrored_kept
from helper import FAR, chances, is_number, refused, run_example, some_word, strange_values, told

EXAMPLE = """
from countscribe.kept import KeptWord, joined_kept, mirrored_kept
from countscribe.keptorder import agree, compare, is_turn_of, kept_place, kept_root, least_kept_turn, many_places, same_kept, turned_kept
far = 10 ** 30
one = KeptWord([("ab", far), ("", 4), ("a", 1)])
other = KeptWord([("a", 1), ("ba", far), ("c", 0)])
[one.pieces() == [("ab", far), ("a", 1)], one.length() - 2 * far, one.letter(2 * far - 1), same_kept(one, other), is_turn_of(one, other)]
# [True, 1, 'b', True, True]
[one.part(1, 6).pieces(), one.part(1, 6).plain(), KeptWord([("a", 2), ("b", 0), ("a", 3)]).pieces(), mirrored_kept(other).pieces() == one.pieces()]
# [[('ba', 2), ('b', 1)], 'babab', [('a', 5)], True]
[agree(one, KeptWord([("ab", far), ("b", 1)])) == 2 * far, agree(one, KeptWord([("aba", far)])), compare(one, KeptWord([("aba", far)]))]
# [True, 3, 1]
[many_places("aba", one) == far, kept_place("aba", one, 5), many_places("aa", joined_kept(one, one))]
# [True, 10, 1]
root, times = kept_root(KeptWord([("a", far), ("b", 1), ("a", 2 * far), ("b", 1), ("a", far)]))
[times, root.pieces() == [("a", far), ("b", 1), ("a", far)], kept_root(KeptWord([("ab", 4), ("abab", far)]))[1] - 2 * far, kept_root(one)[1]]
# [2, True, 4, 1]
by, turn = least_kept_turn(KeptWord([("ba", far), ("b", 1)]))
[by, turn.pieces() == [("ab", far - 1), ("a", 1), ("b", 2)]]
# [1, True]
"""


def plain_of(pieces):
    return "".join([word * times for word, times in pieces])


def plain_together(pieces):
    ready = []
    for word, times in [piece for piece in pieces if piece[0] and piece[1]]:
        if ready and ready[-1][0] == word:
            ready[-1] = (word, ready[-1][1] + times)
        else:
            ready.append((word, times))
    return ready


def plain_part(kept, low, high):
    """The pieces of a part, letter by letter as [10] says."""
    found = []
    start = 0
    for word, times in kept.pieces():
        numbers = [k for k in range(len(word) * times) if low <= start + k < high]
        if numbers:
            a, b = numbers[0], numbers[-1] + 1
            front = word[a % len(word):] + word[:a % len(word)]
            found.append((front, (b - a) // len(word)))
            found.append((front[:(b - a) % len(word)], 1))
        start += len(word) * times
    return plain_together(found)


def some_pieces(chance, most):
    return [(some_word(chance, "ab", 0, 3), chance.choice([0, 1, 1, 2, 3])) for _ in range(chance.randint(0, most))]


def fits_kept_piece(item):
    if not isinstance(item, tuple) or len(item) != 2 or not isinstance(item[0], str) or len(item[0]) > 2000:
        return False
    return all(["a" <= letter <= "z" for letter in item[0]]) and is_number(item[1], 0, 10 ** 99)


class ExampleTest(unittest.TestCase):
    def test_example(self):
        run_example(self, EXAMPLE)


class PlainCheckTest(unittest.TestCase):
    def test_pieces_letters_and_parts(self):
        chance = chances(2)
        for _ in range(250):
            pieces = some_pieces(chance, 5)
            made = KeptWord(pieces)
            plain = plain_of(pieces)
            self.assertEqual(made.pieces(), plain_together(pieces))
            self.assertEqual((made.plain(), made.length()), (plain, len(plain)))
            self.assertEqual("".join([made.letter(at) for at in range(len(plain))]), plain)
            for low in range(len(plain) + 1):
                for high in range(low, len(plain) + 1):
                    part = made.part(low, high)
                    self.assertEqual(part.plain(), plain[low:high])
                    self.assertEqual(part.pieces(), plain_part(made, low, high))
                    self.assertEqual(part.length(), high - low)

    def test_joined_and_mirrored(self):
        chance = chances(3)
        for _ in range(500):
            one, other = some_pieces(chance, 4), some_pieces(chance, 4)
            both = joined_kept(KeptWord(one), KeptWord(other))
            self.assertEqual(both.pieces(), plain_together(one + other))
            self.assertEqual(both.plain(), plain_of(one) + plain_of(other))
            back = mirrored_kept(KeptWord(one))
            self.assertEqual(back.pieces(), [(word[::-1], times) for word, times in plain_together(one)][::-1])
            self.assertEqual(back.plain(), plain_of(one)[::-1])


class EdgesTest(unittest.TestCase):
    def test_nothing_written(self):
        for pieces in [[], [("", 5)], [("abc", 0)], [("", 0), ("", 10 ** 39), ("a", 0)]]:
            made = KeptWord(pieces)
            self.assertEqual((made.pieces(), made.length(), made.plain()), ([], 0, ""))
            self.assertEqual(made.part(0, 0).pieces(), [])
            self.assertEqual(joined_kept(made, made).pieces(), [])
            self.assertEqual(mirrored_kept(made).pieces(), [])
            told(self, "InvalidNumber", 0, made.letter, 0)
            told(self, "InvalidNumber", 1, made.part, 1, 1)
            told(self, "InvalidNumber", 1, made.part, 0, 1)

    def test_neighbours_across_what_is_left_out(self):
        self.assertEqual(KeptWord([("a", 1), ("", 9), ("b", 0), ("a", 10 ** 18)]).pieces(), [("a", 10 ** 18 + 1)])
        self.assertEqual(KeptWord([("ab", 1), ("abab", 1), ("ab", 2)]).pieces(), [("ab", 1), ("abab", 1), ("ab", 2)])
        self.assertEqual(KeptWord([("a", 1), ("b", 1), ("a", 1)]).pieces(), [("a", 1), ("b", 1), ("a", 1)])
        part = KeptWord([("a", 2), ("ba", 1), ("a", 2)]).part(1, 5)
        self.assertEqual(part.pieces(), [("a", 1), ("ba", 1), ("a", 1)])
        part = KeptWord([("ab", 2), ("a", 2)]).part(0, 3)
        self.assertEqual(part.pieces(), [("ab", 1), ("a", 1)])
        part = KeptWord([("ab", 2), ("ba", 2)]).part(1, 6)
        self.assertEqual(part.pieces(), [("ba", 1), ("b", 1), ("ba", 1)])
        part = KeptWord([("ab", 3), ("c", 1), ("b", 2)]).part(3, 7)
        self.assertEqual(part.pieces(), [("ba", 1), ("b", 1), ("c", 1)])
        part = KeptWord([("ba", 1), ("b", 1), ("a", 1)]).part(1, 4)
        self.assertEqual(part.pieces(), [("a", 1), ("b", 1), ("a", 1)])
        part = KeptWord([("ab", 2), ("bb", 4)]).part(2, 5)
        self.assertEqual(part.pieces(), [("ab", 1), ("b", 1)])
        part = KeptWord([("bc", 2), ("ca", 1)]).part(3, 5)
        self.assertEqual(part.pieces(), [("c", 2)])
        self.assertEqual(joined_kept(KeptWord([("a", FAR)]), KeptWord([("a", FAR)])).pieces(), [("a", 2 * FAR)])

    def test_borders_of_far_pieces(self):
        for times in [1, 10 ** 18, FAR + 7, 10 ** 44]:
            made = KeptWord([("abc", times), ("d", times), ("ef", 1)])
            self.assertEqual(made.length(), 4 * times + 2)
            self.assertEqual((made.letter(0), made.letter(2), made.letter(3 * times - 1)), ("a", "c", "c"))
            self.assertEqual((made.letter(3 * times), made.letter(4 * times - 1)), ("d", "d"))
            self.assertEqual((made.letter(4 * times), made.letter(4 * times + 1)), ("e", "f"))
            told(self, "InvalidNumber", 4 * times + 2, made.letter, 4 * times + 2)
            told(self, "InvalidNumber", -1, made.letter, -1)
            self.assertEqual(made.part(3 * times - 1, 3 * times + 1).plain(), "cd")
            self.assertEqual(made.part(0, 3 * times).pieces(), [("abc", times)])
            self.assertEqual(made.part(3 * times, 4 * times).pieces(), [("d", times)])
            self.assertEqual(made.part(4 * times + 2, 4 * times + 2).pieces(), [])
            self.assertEqual(made.part(0, 4 * times + 2).pieces(), made.pieces())
            self.assertEqual(made.part(3 * times - 2, 3 * times).plain(), "bc")
            told(self, "InvalidNumber", 4 * times + 3, made.part, 0, 4 * times + 3)
            told(self, "InvalidNumber", 4 * times + 3, made.part, 4 * times + 3, 4 * times + 3)
            told(self, "InvalidNumber", 3 * times - 1, made.part, 3 * times, 3 * times - 1)

    def test_numbers_of_45_figures(self):
        times = 10 ** 45
        made = KeptWord([("ab", times)])
        self.assertEqual((made.letter(10 ** 44), made.letter(10 ** 44 + 1)), ("a", "b"))
        self.assertEqual(made.part(10 ** 44 + 1, 10 ** 44 + 4).plain(), "bab")
        self.assertEqual(made.part(10 ** 44, 2 * 10 ** 44 + 1).pieces(), [("ab", 5 * 10 ** 43), ("a", 1)])

    def test_plain_up_to_its_bound(self):
        self.assertEqual(KeptWord([("ab", 10000)]).plain(), "ab" * 10000)
        made = KeptWord([("ab", 10000), ("c", 1)])
        told(self, "TooLong", 20001, made.plain)
        told(self, "TooLong", 2 * FAR, KeptWord([("ab", FAR)]).plain)

    def test_bounds_of_what_is_handed_in(self):
        self.assertEqual(KeptWord([("a", 1)] * 5000).pieces(), [("a", 5000)])
        many = [("a", 1)] * 5001
        told(self, "InvalidPieces", many, KeptWord, many)
        many = [None] * 5001
        told(self, "InvalidPieces", many, KeptWord, many)
        self.assertEqual(KeptWord([("ab" * 1000, 3)]).length(), 6000)
        item = ("a" * 2001, 0)
        told(self, "InvalidPiece", item, KeptWord, [("a", 1), item, None])
        self.assertEqual(KeptWord([("a" * 2000, 1)] * 5).length(), 10000)
        told(self, "TooLong", 10001, KeptWord, [("a" * 2000, 1)] * 5 + [("b", 0)])
        told(self, "TooLong", 10002, KeptWord, [("ab", 0)] * 5 + [("a" * 1999, 0)] * 4 + [("a" * 1996, 0)])
        told(self, "TooLong", 2000 * 4999, KeptWord, [("", 1)] + [("a" * 2000, 0)] * 4999)
        self.assertEqual(KeptWord([("ab", 0)] * 4999 + [("cd", FAR)]).pieces(), [("cd", FAR)])

    def test_larger_ones_are_taken_again(self):
        made = KeptWord([("a", 1), ("b", 1)] * 2500)
        twice = joined_kept(made, made)
        for _ in range(2):
            twice = joined_kept(twice, twice)
        self.assertEqual((len(twice.pieces()), twice.length()), (40000, 40000))
        back = mirrored_kept(twice)
        self.assertEqual((back.letter(0), back.letter(39999), back.part(1, 39999).length()), ("b", "a", 39998))
        long = KeptWord([("ab" * 1000, 5)])
        self.assertEqual(long.part(1, 9001).pieces(), [("ba" * 1000, 4), ("ba" * 500, 1)])
        wide = joined_kept(KeptWord([("abc" * 600, 9)] * 5), KeptWord([("d", 2), ("abc" * 600, 1)]))
        self.assertEqual(joined_kept(wide, wide).length(), 2 * (45 * 1800 + 2 + 1800))

    def test_objects(self):
        one, other = KeptWord([("a", 1)]), KeptWord([("a", 1)])
        self.assertEqual(one == one, True)
        self.assertEqual(one == other, False)
        self.assertEqual(one != other, True)
        for name in ["pieces", "length", "letter", "part", "plain"]:
            self.assertIn(name, vars(KeptWord))
        for call in [KeptWord, joined_kept, mirrored_kept]:
            self.assertEqual(call.__module__, "countscribe.kept")

    def test_by_names(self):
        made = KeptWord(pieces=[("ab", 2)])
        self.assertEqual((made.letter(at=1), made.part(low=1, high=2).plain()), ("b", "b"))
        self.assertEqual(joined_kept(one=made, other=made).length() + mirrored_kept(kept=made).length(), 12)


class NothingElseChangesTest(unittest.TestCase):
    def test_lists_belong_to_the_caller(self):
        pieces = [("ab", 2), ("", 1), ("c", 1)]
        made = KeptWord(pieces)
        self.assertEqual(pieces, [("ab", 2), ("", 1), ("c", 1)])
        pieces.append(("d", 1))
        pieces[0] = None
        self.assertEqual((made.pieces(), made.plain()), ([("ab", 2), ("c", 1)], "ababc"))
        found = made.pieces()
        found.clear()
        self.assertEqual((made.pieces(), made.length(), made.letter(4)), ([("ab", 2), ("c", 1)], 5, "c"))
        self.assertIsNot(made.pieces(), made.pieces())

    def test_calls_change_no_kept_word(self):
        one, other = KeptWord([("ab", 2)]), KeptWord([("ab", 1), ("c", 1)])
        both = joined_kept(one, other)
        part = one.part(0, 4)
        mirrored_kept(one)
        both.pieces().append(("x", 1))
        part.pieces().clear()
        self.assertEqual((one.pieces(), other.pieces()), ([("ab", 2)], [("ab", 1), ("c", 1)]))
        self.assertEqual((both.pieces(), part.pieces()), ([("ab", 3), ("c", 1)], [("ab", 2)]))

    def test_an_error_changes_nothing(self):
        made = KeptWord([("ab", 2)])
        for call in [lambda: made.letter(4), lambda: made.part(1, 0), lambda: made.part(5, 5)]:
            self.assertRaises(errors.InvalidNumber, call)
        self.assertEqual((made.pieces(), made.plain()), ([("ab", 2)], "abab"))


class WrongInputsTest(unittest.TestCase):
    def test_pieces(self):
        refused(self, "InvalidPieces", lambda value: isinstance(value, list), KeptWord)
        for item in strange_values():
            if not fits_kept_piece(item):
                told(self, "InvalidPiece", item, KeptWord, [("a", 1), item, 5])
        for item in [["a", 1], ("a", True), ("a", -1), ("A", 1), ("a", 1, 1), ("a",), (1, "a"), ("a", None), (None, 1),
                     ("a", (1,)), (("a",), 1), ("a", "1"), (b"a", 1)]:
            told(self, "InvalidPiece", item, KeptWord, [item])

    def test_numbers(self):
        made = KeptWord([("ab", FAR)])
        refused(self, "InvalidNumber", lambda value: is_number(value, 0, 2 * FAR - 1), made.letter)
        refused(self, "InvalidNumber", lambda value: is_number(value, 0, 2 * FAR), lambda value: made.part(value, 2 * FAR))
        refused(self, "InvalidNumber", lambda value: is_number(value, 1, 2 * FAR), lambda value: made.part(1, value))

    def test_kept_words(self):
        made = KeptWord([("a", 1)])
        refused(self, "InvalidKept", lambda value: isinstance(value, KeptWord), mirrored_kept)
        refused(self, "InvalidKept", lambda value: isinstance(value, KeptWord), lambda value: joined_kept(value, made))
        refused(self, "InvalidKept", lambda value: isinstance(value, KeptWord), lambda value: joined_kept(made, value))

    def test_the_first_wrong_one_is_told(self):
        made = KeptWord([("ab", 2)])
        told(self, "InvalidNumber", None, made.part, None, "x")
        told(self, "InvalidNumber", 5, made.part, 5, -1)
        told(self, "InvalidKept", None, joined_kept, None, "x")
        item = ("a" * 2001, 1)
        told(self, "InvalidPiece", item, KeptWord, [("a" * 2000, 1)] * 6 + [item])


if __name__ == "__main__":
    unittest.main()
