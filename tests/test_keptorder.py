"""[11] to [14]: what two kept words have in common, where words stand in them, their roots and turns."""

import unittest

from countscribe.kept import KeptWord, joined_kept, mirrored_kept
from countscribe.keptorder import (
    agree, compare, is_turn_of, kept_place, kept_root, least_kept_turn, many_places, same_kept, turned_kept,
)
from helper import FAR, chances, is_number, refused, small_words, some_word, told


def some_kept(chance, letters="ab", most=4):
    pieces = [(some_word(chance, letters, 0, 3), chance.choice([0, 1, 1, 2, 3, 5])) for _ in range(chance.randint(0, most))]
    return KeptWord(pieces)


def alike(one, other):
    size = 0
    while size < min(len(one), len(other)) and one[size] == other[size]:
        size += 1
    return size


def all_places(part, plain):
    return [at for at in range(len(plain) - len(part) + 1) if plain[at:at + len(part)] == part]


def is_kept(value):
    return isinstance(value, KeptWord)


class PlainCheckTest(unittest.TestCase):
    def test_two_kept_words(self):
        chance = chances(4)
        for _ in range(2500):
            one, other = some_kept(chance), some_kept(chance)
            left, right = one.plain(), other.plain()
            self.assertEqual(agree(one, other), alike(left, right))
            self.assertEqual(compare(one, other), (left > right) - (left < right))
            self.assertIs(same_kept(one, other), left == right)
            turns = [left[by:] + left[:by] for by in range(len(left) + 1)]
            self.assertIs(is_turn_of(one, other), right in turns)

    def test_the_same_word_in_other_pieces(self):
        chance = chances(5)
        for _ in range(500):
            one = some_kept(chance)
            plain = one.plain()
            places = sorted([chance.randint(0, len(plain)) for _ in range(3)])
            other = KeptWord([(plain[a:b], 1) for a, b in zip([0] + places, places + [len(plain)])])
            self.assertEqual((agree(one, other), compare(one, other)), (len(plain), 0))
            self.assertIs(same_kept(one, other), True)
            by = chance.randint(0, len(plain))
            self.assertIs(is_turn_of(one, turned_kept(other, by)), True)
            self.assertIs(is_turn_of(turned_kept(other, by), one), True)

    def test_places_of_words(self):
        chance = chances(6)
        words = [word for word in small_words("ab", 5) if word]
        for _ in range(250):
            one = some_kept(chance)
            plain = one.plain()
            for part in words:
                found = all_places(part, plain)
                self.assertEqual(many_places(part, one), len(found))
                self.assertEqual([kept_place(part, one, at) for at in range(len(found))], found)
                told(self, "InvalidNumber", len(found), kept_place, part, one, len(found))

    def test_places_of_long_words_in_many_copies(self):
        chance = chances(7)
        for _ in range(150):
            one = KeptWord([(some_word(chance, "aab", 1, 3), chance.randint(1, 12)) for _ in range(3)])
            plain = one.plain()
            for size in range(1, len(plain) + 1, 2):
                at = chance.randint(0, len(plain) - size)
                part = plain[at:at + size]
                found = all_places(part, plain)
                self.assertEqual(many_places(part, one), len(found))
                self.assertEqual([kept_place(part, one, k) for k in range(len(found))], found)

    def test_roots(self):
        chance = chances(8)
        for _ in range(1500):
            one = some_kept(chance, "aab", 3)
            for _ in range(chance.choice([0, 0, 1, 2])):
                one = joined_kept(one, one)
            plain = one.plain()
            if not plain:
                continue
            size = min([k for k in range(1, len(plain) + 1) if len(plain) % k == 0 and plain[:k] * (len(plain) // k) == plain])
            root, times = kept_root(one)
            self.assertEqual((root.plain(), times), (plain[:size], len(plain) // size))
            self.assertEqual(root.pieces(), one.part(0, size).pieces())
            longest = max([len(word) for word, _ in one.pieces()])
            self.assertTrue(times < 2 * len(one.pieces()) or size <= longest)

    def test_turns(self):
        chance = chances(9)
        for _ in range(1500):
            one = some_kept(chance)
            plain = one.plain()
            for by in range(len(plain) + 1):
                turn = turned_kept(one, by)
                self.assertEqual(turn.plain(), plain[by:] + plain[:by])
                self.assertEqual(turn.pieces(), joined_kept(one.part(by, len(plain)), one.part(0, by)).pieces())
            turns = [plain[by:] + plain[:by] for by in range(max(len(plain), 1))]
            by, turn = least_kept_turn(one)
            self.assertEqual((by, turn.plain()), (turns.index(min(turns)), min(turns)))
            self.assertEqual(turn.pieces(), turned_kept(one, by).pieces())


class FarTest(unittest.TestCase):
    def test_agree(self):
        for times in [1, 10 ** 18, FAR + 1, 10 ** 44]:
            one = KeptWord([("ab", times), ("a", 1)])
            self.assertEqual(agree(one, KeptWord([("a", 1), ("ba", times)])), 2 * times + 1)
            self.assertEqual(agree(one, KeptWord([("abab", times)])), min(2 * times + 1, 4 * times))
            self.assertEqual(agree(KeptWord([("a", times), ("b", 1)]), KeptWord([("a", times + 1)])), times)
            self.assertEqual(agree(KeptWord([("aab", times), ("aa", 1)]), KeptWord([("aabaab", times)])), min(3 * times + 2, 6 * times))
            self.assertEqual(compare(KeptWord([("a", times), ("b", 1)]), KeptWord([("a", times + 1)])), 1)
            self.assertEqual(compare(KeptWord([("a", times)]), KeptWord([("a", times + 1)])), -1)
            self.assertEqual(compare(KeptWord([("a", times + 1)]), KeptWord([("a", times)])), 1)
            self.assertEqual(compare(KeptWord([("a", times + 1)]), KeptWord([("a", times), ("b", 1)])), -1)
            self.assertIs(same_kept(KeptWord([("aa", times)]), KeptWord([("a", 2 * times)])), True)
            self.assertIs(same_kept(KeptWord([("aa", times)]), KeptWord([("a", 2 * times + 1)])), False)

    def test_words_of_different_lengths(self):
        one = KeptWord([("a" * 12 + "b", FAR)])
        other = KeptWord([("a" * 11 + "b", FAR)])
        self.assertEqual((agree(one, other), compare(one, other)), (11, -1))
        self.assertEqual(agree(KeptWord([("aba", FAR)]), KeptWord([("abaab", FAR)])), 6)
        self.assertEqual(agree(KeptWord([("ab" * 900, FAR)]), KeptWord([("ab" * 999, FAR), ("b", 1)])), 1800 * FAR)

    def test_places(self):
        one = KeptWord([("ab", FAR), ("a", 1)])
        self.assertEqual(many_places("ba", one), FAR)
        self.assertEqual(kept_place("ba", one, FAR - 1), 2 * FAR - 1)
        told(self, "InvalidNumber", FAR, kept_place, "ba", one, FAR)
        self.assertEqual(many_places("b" * 200, KeptWord([("b", FAR), ("a", 1), ("b", 199)])), FAR - 199)
        self.assertEqual(kept_place("b" * 200, KeptWord([("a", 5), ("b", FAR)]), FAR - 200), 5 + FAR - 200)
        both = KeptWord([("ab", FAR), ("cab", FAR)])
        self.assertEqual(many_places("ab", both), 2 * FAR)
        self.assertEqual([kept_place("ab", both, FAR - 1), kept_place("ab", both, FAR)], [2 * FAR - 2, 2 * FAR + 1])
        self.assertEqual(kept_place("ab", both, 2 * FAR - 1), 5 * FAR - 2)
        self.assertEqual([many_places("babc", both), kept_place("babc", both, 0)], [1, 2 * FAR - 3])
        made = KeptWord([("ab", 10 ** 45)])
        self.assertEqual(kept_place("ba", made, 10 ** 44), 2 * 10 ** 44 + 1)

    def test_roots(self):
        for times in [1, 10 ** 18, FAR]:
            made = KeptWord([("ab", 2 * times), ("abab", times)])
            root, found = kept_root(made)
            self.assertEqual((root.plain(), found), ("ab", 4 * times))
            made = KeptWord([("a", times), ("b", 1), ("a", times), ("b", 1), ("a", times), ("b", 1)])
            root, found = kept_root(made)
            self.assertEqual((root.pieces(), found), ([("a", times), ("b", 1)], 3))
            self.assertEqual(kept_root(KeptWord([("a", times), ("b", times)]))[1], 1)

    def test_turns(self):
        for times in [10 ** 18, FAR, 10 ** 44]:
            made = KeptWord([("b", times), ("a", times), ("c", 1)])
            self.assertEqual([least_kept_turn(made)[0], least_kept_turn(made)[1].pieces()],
                             [times, [("a", times), ("c", 1), ("b", times)]])
            made = KeptWord([("ab", times), ("b", 1), ("ab", times + 1), ("b", 1)])
            self.assertEqual(least_kept_turn(made)[0], 2 * times + 1)
            made = KeptWord([("ab", times), ("aab", 1)])
            self.assertEqual(least_kept_turn(made)[0], 2 * times)
            made = KeptWord([("ab", times), ("a", 1)])
            self.assertEqual(least_kept_turn(made)[0], 2 * times)
            self.assertIs(is_turn_of(made, turned_kept(made, times // 3)), True)
            self.assertIs(is_turn_of(made, KeptWord([("ba", times), ("b", 1)])), False)
            self.assertEqual(turned_kept(made, 2 * times + 1).pieces(), made.pieces())
            self.assertEqual(turned_kept(made, 0).pieces(), made.pieces())
            self.assertEqual(turned_kept(made, 2 * times).pieces(), [("a", 1), ("ab", times)])
        made = KeptWord([("ab", 10 ** 45)])
        self.assertEqual(turned_kept(made, 10 ** 44 + 1).letter(0), "b")


class EdgesTest(unittest.TestCase):
    def test_nothing_written(self):
        none, some = KeptWord([("", 3), ("a", 0)]), KeptWord([("a", FAR)])
        self.assertEqual((agree(none, some), agree(some, none), agree(none, none)), (0, 0, 0))
        self.assertEqual((compare(none, some), compare(some, none), compare(none, none)), (-1, 1, 0))
        self.assertEqual((same_kept(none, none), same_kept(none, some)), (True, False))
        self.assertEqual(many_places("a", none), 0)
        told(self, "InvalidNumber", 0, kept_place, "a", none, 0)
        told(self, "InvalidKept", none, kept_root, none)
        self.assertEqual(turned_kept(none, 0).pieces(), [])
        told(self, "InvalidNumber", 1, turned_kept, none, 1)
        by, turn = least_kept_turn(none)
        self.assertEqual((by, turn.pieces()), (0, []))
        self.assertEqual((is_turn_of(none, KeptWord([])), is_turn_of(none, some)), (True, False))

    def test_results_are_of_plain_kinds(self):
        one = KeptWord([("ab", 2)])
        for value in [agree(one, one), compare(one, one), many_places("a", one), kept_root(one)[1], least_kept_turn(one)[0]]:
            self.assertNotIsInstance(value, bool)
        self.assertIsInstance(kept_root(one), tuple)
        self.assertIsInstance(least_kept_turn(one), tuple)

    def test_by_names(self):
        one = KeptWord([("ba", 2)])
        self.assertEqual([agree(one=one, other=one), compare(one=one, other=one), same_kept(one=one, other=one)], [4, 0, True])
        self.assertEqual([many_places(part="a", kept=one), kept_place(part="a", kept=one, number=1)], [2, 3])
        self.assertEqual([kept_root(kept=one)[1], least_kept_turn(kept=one)[0], is_turn_of(one=one, other=one)], [2, 1, True])
        self.assertEqual(turned_kept(kept=one, by=1).plain(), "abab")

    def test_calls_change_no_kept_word(self):
        one, other = KeptWord([("ab", 2), ("a", 3)]), KeptWord([("ba", FAR)])
        agree(one, other), compare(one, other), same_kept(one, other), many_places("a", one), kept_place("a", one, 1)
        root, turn = kept_root(one)[0], least_kept_turn(one)[1]
        turned_kept(one, 3).pieces().clear()
        root.pieces().clear()
        turn.pieces().clear()
        is_turn_of(one, other)
        self.assertEqual((one.pieces(), other.pieces()), ([("ab", 2), ("a", 3)], [("ba", FAR)]))
        self.assertEqual(turn.plain(), "aaaabab")


class LimitsTest(unittest.TestCase):
    def test_5000_pieces(self):
        one = KeptWord([("ab", FAR), ("c", FAR)] * 2500)
        other = joined_kept(KeptWord([("ab", FAR), ("c", FAR)] * 2499), KeptWord([("ab", FAR), ("d", 1)]))
        self.assertEqual(agree(one, one), one.length())
        self.assertEqual(agree(one, other), other.length() - 1)
        self.assertEqual(compare(one, other), -1)
        self.assertEqual(many_places("abc", one), 2500)
        part = "c" * 60 + "ab" * 70
        self.assertEqual(many_places(part, one), 2499)
        self.assertEqual(kept_place(part, one, 2498), 2499 * 3 * FAR - 60)
        self.assertEqual(many_places("c" * 200, one), 2500 * (FAR - 199))
        wide = joined_kept(one, one)
        self.assertEqual(many_places("ab", joined_kept(wide, mirrored_kept(wide))), 5000 * FAR + 5000 * (FAR - 1))

    def test_words_of_2000_letters(self):
        words = ["a" * 1999 + "b", "a" * 1998 + "b", "a" * 2000]
        one = KeptWord([(word, FAR) for word in words])
        other = KeptWord([(words[0], FAR), (words[1], FAR + 1)])
        self.assertEqual(agree(one, other), (2000 + 1999) * FAR + 1998)

    def test_40_pieces_with_200_letters(self):
        far = 10 ** 30
        for words in [["ab" * 2 + "a"] * 40, ["aaaab", "aaaaa"] * 20, ["a" * 4 + "b"] * 39 + ["a" * 5], ["abcde"] * 40]:
            one = KeptWord([(word, far + at) for at, word in enumerate(words)])
            if len(one.pieces()) == 1:
                one = KeptWord([(word[at % 5:] + word[:at % 5], far) for at, word in enumerate(words)])
            by, turn = least_kept_turn(one)
            self.assertIs(same_kept(turn, turned_kept(one, by)), True)
            self.assertIs(is_turn_of(one, turned_kept(one, 17 * far + 3)), True)
            root, times = kept_root(one)
            self.assertEqual(root.length() * times, one.length())
        half = [("a", far), ("b", 1)] * 10
        one = KeptWord(half + half)
        self.assertEqual((kept_root(one)[1], least_kept_turn(one)[0]), (20, 0))
        one = KeptWord([("a", far), ("b", 9)] * 19 + [("a", far), ("b", 10)])
        self.assertEqual((kept_root(one)[1], least_kept_turn(one)[0]), (1, 0))

    def test_part_of_200_letters(self):
        pieces = [("a", FAR), ("b", 1)] * 20
        one = KeptWord(pieces)
        part = "a" * 99 + "b" + "a" * 100
        self.assertEqual((many_places(part, one), kept_place(part, one, 18)), (19, 18 * (FAR + 1) + FAR - 99))
        self.assertEqual(many_places("a" * 200, one), 20 * (FAR - 199))


class WrongInputsTest(unittest.TestCase):
    def test_two_kept_words(self):
        one = KeptWord([("a", 1)])
        for call in [agree, compare, same_kept, is_turn_of]:
            refused(self, "InvalidKept", is_kept, lambda value: call(value, one))
            refused(self, "InvalidKept", is_kept, lambda value: call(one, value))
            told(self, "InvalidKept", None, call, None, "x")

    def test_one_kept_word(self):
        one = KeptWord([("ab", 3)])
        refused(self, "InvalidKept", lambda value: is_kept(value) and value.length(), kept_root)
        refused(self, "InvalidKept", is_kept, least_kept_turn)
        refused(self, "InvalidKept", is_kept, lambda value: turned_kept(value, 0))
        refused(self, "InvalidNumber", lambda value: is_number(value, 0, 6), lambda value: turned_kept(one, value))
        told(self, "InvalidNumber", 7, turned_kept, one, 7)
        told(self, "InvalidKept", 5, turned_kept, 5, -1)

    def test_places(self):
        one = KeptWord([("ab", 3)])

        def is_some_word(value):
            return isinstance(value, str) and value in ["a", "abc"]

        refused(self, "InvalidWord", is_some_word, lambda value: many_places(value, one))
        refused(self, "InvalidWord", is_some_word, lambda value: kept_place(value, one, 0))
        refused(self, "InvalidKept", is_kept, lambda value: many_places("a", value))
        refused(self, "InvalidKept", is_kept, lambda value: kept_place("a", value, 0))
        refused(self, "InvalidNumber", lambda value: is_number(value, 0, 2), lambda value: kept_place("a", one, value))
        told(self, "InvalidNumber", 3, kept_place, "a", one, 3)
        told(self, "InvalidWord", "", many_places, "", None)
        told(self, "InvalidWord", "A", kept_place, "A", None, -1)
        told(self, "InvalidKept", None, kept_place, "a", None, -1)


if __name__ == "__main__":
    unittest.main()
