"""[63], [64]: splices of texts, and the least one that makes one text of another."""

import unittest

from countscribe.beginnings import common_beginning, common_ending
from countscribe.cuts import parts
from countscribe.edits import filling, first_start, least_splice, put, spliced, taken
from countscribe.texts import OpenText, joined, length, written
from helper import FAR, all_points, chances, is_number, refused, run_example, some_text, texts_within, told, told_two, value_at, word_at
from plainplaces import is_at_most, plain_places

EXAMPLE = """
from countscribe.edits import filling, first_start, least_splice, spliced
from countscribe.texts import OpenText
text = OpenText(1, [("ab", (0, 1)), ("a", (1, 0))])
spliced(text, (0, 0), (1, 0), OpenText(1, [("c", (1, 0))])).pieces()
# [('c', (1, 0)), ('ba', (0, 1))]
old, new = OpenText(1, [("a", (0, 1)), ("b", (1, 0))]), OpenText(1, [("a", (0, 1)), ("ab", (1, 0))])
[least_splice(old, new)[:2], least_splice(old, new)[2].pieces(), first_start(old, new), filling(old, new, (0, 0), (0, 0)).pieces(), filling(old, new, (0, 0), (1, 1)) == new]
# [((0, 1), (0, 1)), [('a', (1, 0))], (0, 0), [('a', (1, 0))], True]
"""


def is_text(value):
    return isinstance(value, OpenText)


def is_form(value, many):
    return isinstance(value, tuple) and len(value) == many + 1 and all([is_number(number, 0, 10 ** 99) for number in value])


def less(one, other):
    return tuple([a - b for a, b in zip(one, other)])


def more(one, other):
    return tuple([a + b for a, b in zip(one, other)])


def ranges(text):
    """All pairs of open places of a text, the first at most the second."""
    places = plain_places(text)
    return [(start, end) for start in places for end in places if is_at_most(start, end)]


class ExampleTest(unittest.TestCase):
    def test_example(self):
        run_example(self, EXAMPLE)


class SplicedTest(unittest.TestCase):
    def test_against_the_words(self):
        chance = chances(230)
        for _ in range(250):
            many = chance.randint(0, 3)
            text, given = some_text(chance, many, 4), some_text(chance, many, 2, "abc")
            for start, end in chance.sample(ranges(text), min(6, len(ranges(text)))):
                found = spliced(text, start, end, given)
                gone = taken(text, start, end)
                self.assertEqual(found, joined(joined(parts(text, [start, end])[0], given), parts(text, [start, end])[2]))
                for point in all_points(many, 2):
                    word, low, high = written(text, point), value_at(start, point), value_at(end, point)
                    self.assertEqual(written(found, point), word[:low] + word_at(given.pieces(), point) + word[high:])
                    self.assertEqual(written(gone, point), word[:low] + word[high:])
                self.assertEqual(put(text, start, given), spliced(text, start, start, given))

    def test_first_and_last_place(self):
        for many in range(4):
            none, one = (0,) * (many + 1), (1,) + (0,) * many
            text, given = OpenText(many, [("ab", (2,) + (1,) * many)]), OpenText(many, [("c", one)])
            end = length(text)
            self.assertEqual([put(text, none, given), put(text, end, given)], [joined(given, text), joined(text, given)])
            self.assertEqual([spliced(text, none, end, given), taken(text, none, end), taken(text, none, none), taken(text, end, end)], [given, OpenText(many, []), text, text])
            self.assertEqual([put(text, none, OpenText(many, [])), spliced(text, none, end, text)], [text, text])
            empty = OpenText(many, [])
            self.assertEqual([put(empty, none, given), taken(empty, none, none)], [given, empty])

    def test_far_numbers(self):
        text = OpenText(2, [("ab", (0, FAR, 2)), ("c", (1, 0, 0))])
        place, end = (0, 2 * FAR - 2, 2), (0, 2 * FAR, 4)
        self.assertEqual(taken(text, place, end).pieces(), [("ab", (0, FAR - 1, 1)), ("c", (1, 0, 0))])
        self.assertEqual(put(text, place, OpenText(2, [("ab", (1, 0, 0))])).pieces(), [("ab", (0, FAR, 2)), ("abc", (1, 0, 0))])

    def test_measures_of_2000_and_2001(self):
        text = OpenText(1, [("ab" * 300 + "c", (0, 7)), ("d", (1, 0))])
        inside = (0, 601 * 3)
        self.assertEqual(length(put(text, inside, OpenText(1, [("x", (797, 0))]))), (798, 7 * 601))
        given = OpenText(1, [("x", (798, 0))])
        told(self, "TooLong", 2001, put, text, inside, given)
        told(self, "TooLong", 2001, spliced, text, inside, inside, given)
        self.assertEqual(len(put(text, (1, 601 * 7), given).pieces()), 2)
        self.assertEqual(length(spliced(text, (0, 0), (1, 601 * 7), OpenText(1, [("x", (2000, 0))]))), (2000, 0))
        long = OpenText(1, [("xy", (500, 0)), ("z", (500, 1)), ("xy", (200, 0))])
        told(self, "TooLong", 602 + 1901, put, text, (0, 0), long)
        # What is cut out counts at both ends, also if nothing is put there.
        text = OpenText(1, [("a" * 1000 + "b", (0, 7))])
        told(self, "TooLong", 2002, taken, text, (0, 1001), (0, 2002))
        self.assertEqual(taken(text, (0, 1001), (0, 7007)).pieces(), [("a" * 1000 + "b", (0, 1))])


class LeastSpliceTest(unittest.TestCase):
    def small_texts(self):
        """Texts by their lengths, from the shortest one on."""
        return texts_within(1, (3, 2), "ab")

    def test_all_splices_of_small_texts(self):
        by_length = self.small_texts()
        texts = [text for own in sorted(by_length) for text in by_length[own]]
        chance = chances(231)
        parted = 0
        for number in range(400):
            old, new = chance.choice(texts), chance.choice(texts)
            if number % 4:
                new = spliced(old, *chance.choice(ranges(old)), chance.choice(texts[:20]))
                if not is_at_most(length(new), (3, 2)):
                    continue
            ways = []
            for start, end in ranges(old):
                fill = [given for given in by_length.get(more(less(length(new), length(old)), less(end, start)), []) if spliced(old, start, end, given) == new]
                self.assertLessEqual(len(fill), 1)
                self.assertEqual(filling(old, new, start, end), fill[0] if fill else None, (old.pieces(), new.pieces(), start, end))
                ways.extend([(start, end, given) for given in fill])
            start, end, given = least_splice(old, new)
            self.assertIn((start, end, given), ways)
            for own_start, own_end, own in ways:
                self.assertTrue(is_at_most(less(end, start), less(own_end, own_start)))
                self.assertTrue(is_at_most(length(given), length(own)))
            self.assertEqual(start, length(common_beginning(old, new)))
            first = first_start(old, new)
            starts = [way[0] for way in ways if less(way[1], way[0]) == less(end, start)]
            self.assertTrue(first in starts and start in starts)
            self.assertTrue(all([is_at_most(first, own) and is_at_most(own, start) for own in starts]))
            parted += first != start
        self.assertGreater(parted, 12)

    def test_random_texts(self):
        chance = chances(232)
        for _ in range(400):
            many = chance.randint(0, 3)
            text, given = some_text(chance, many, 4), some_text(chance, many, 2)
            start, end = chance.choice(ranges(text))
            new = spliced(text, start, end, given)
            self.assertEqual(filling(text, new, start, end), given)
            low, high, least = least_splice(text, new)
            self.assertEqual(spliced(text, low, high, least), new)
            self.assertTrue(is_at_most(less(high, low), less(end, start)) and is_at_most(length(least), length(given)))
            first = first_start(text, new)
            self.assertTrue(is_at_most(first, low))
            moved = filling(text, new, first, more(first, less(high, low)))
            self.assertEqual(length(moved), length(least))
            other = some_text(chance, many, 4)
            low, high, least = least_splice(text, other)
            self.assertEqual(spliced(text, low, high, least), other)

    def test_filling_where_there_is_one(self):
        """There is one just where what both have in common ahead and behind suffices, and is not too much for the new one."""
        chance = chances(233)
        counts = {True: 0, False: 0}
        for _ in range(300):
            many = chance.randint(0, 2)
            old, new = some_text(chance, many, 3), some_text(chance, many, 3)
            ahead, behind = length(common_beginning(old, new)), length(common_ending(old, new))
            for start, end in ranges(old):
                rest = less(length(old), end)
                right = is_at_most(start, ahead) and is_at_most(rest, behind) and is_at_most(more(start, rest), length(new))
                found = filling(old, new, start, end)
                self.assertIs(found is not None, right)
                if right:
                    self.assertEqual(spliced(old, start, end, found), new)
                counts[right] += 1
        self.assertGreater(min(counts.values()), 300)

    def test_equal_texts_and_empty_ones(self):
        for many in range(4):
            none, one = (0,) * (many + 1), (1,) + (0,) * many
            empty, text = OpenText(many, []), OpenText(many, [("ab", (1,) * (many + 1)), ("c", one)])
            end = length(text)
            self.assertEqual([least_splice(text, text), first_start(text, text), filling(text, text, none, none), filling(text, text, none, end)], [(end, end, empty), none, empty, text])
            self.assertEqual([least_splice(empty, empty), first_start(empty, empty), filling(empty, empty, none, none)], [(none, none, empty), none, empty])
            self.assertEqual([least_splice(text, empty), first_start(text, empty), filling(text, empty, none, end), filling(text, empty, none, none)], [(none, end, empty), none, empty, None])
            self.assertEqual([least_splice(empty, text), first_start(empty, text), filling(empty, text, none, none)], [(none, none, text), none, text])

    def test_one_begins_or_ends_the_other(self):
        short, rest = OpenText(1, [("ab", (0, 2))]), OpenText(1, [("c", (1, 1))])
        longer = joined(short, rest)
        self.assertEqual([least_splice(short, longer), first_start(short, longer)], [((0, 4), (0, 4), rest), (0, 4)])
        self.assertEqual([least_splice(longer, short), first_start(longer, short)], [((0, 4), (1, 5), OpenText(1, [])), (0, 4)])
        longer = joined(rest, short)
        self.assertEqual([least_splice(short, longer), first_start(short, longer)], [((0, 0), (0, 0), rest), (0, 0)])
        self.assertEqual([least_splice(longer, short), first_start(longer, short)], [((0, 0), (1, 1), OpenText(1, [])), (0, 0)])
        # Both a beginning and an end.
        short, longer = OpenText(1, [("a", (0, 1))]), OpenText(1, [("a", (2, 3))])
        self.assertEqual([least_splice(short, longer), first_start(short, longer)], [((0, 1), (0, 1), OpenText(1, [("a", (2, 2))])), (0, 0)])
        self.assertEqual([least_splice(longer, short), first_start(longer, short)], [((0, 1), (2, 3), OpenText(1, [])), (0, 0)])

    def test_far_numbers(self):
        old, new = OpenText(1, [("ab", (0, FAR)), ("c", (1, 0))]), OpenText(1, [("ab", (0, 2 * FAR)), ("c", (1, 0))])
        self.assertEqual(least_splice(old, new), ((0, 2 * FAR), (0, 2 * FAR), OpenText(1, [("ab", (0, FAR))])))
        self.assertEqual([first_start(old, new), filling(old, new, (0, 2), (0, 2)), filling(old, new, (0, 2), (1, 2 * FAR)) is None], [(0, 0), OpenText(1, [("ab", (0, FAR))]), False])

    def test_near_the_limits(self):
        chance = chances(234)
        pieces = [(chance.choice("ab") * chance.randint(1, 3) + "c" * (k % 2), (k % 2, 1 - k % 2, k % 3, 0)) for k in range(500)]
        old, new = OpenText(3, pieces), OpenText(3, pieces[:250] + [("d", (1, 1, 0, 0))] + pieces[250:])
        start, end, given = least_splice(old, new)
        self.assertEqual([spliced(old, start, end, given), filling(old, new, start, end), start, given], [new, given, end, OpenText(3, [("d", (1, 1, 0, 0))])])


class WrongInputsTest(unittest.TestCase):
    def test_texts(self):
        for call in [lambda value: spliced(value, None, None, None), lambda value: put(value, None, None), lambda value: taken(value, None, None), lambda value: least_splice(value, None),
                     lambda value: first_start(value, None), lambda value: filling(value, None, None, None)]:
            refused(self, "InvalidText", is_text, call)
        text = OpenText(1, [("ab", (0, 2)), ("c", (1, 0))])
        for call in [lambda value: spliced(text, (0, 0), (0, 0), value), lambda value: put(text, (0, 0), value), lambda value: least_splice(text, value), lambda value: first_start(text, value),
                     lambda value: filling(text, value, (0, 0), (0, 0))]:
            refused(self, "InvalidText", is_text, call)
            for value in [OpenText(0, []), OpenText(2, []), OpenText(3, [("a", (1, 1, 1, 1))])]:
                told(self, "Unlike", value, call, value)

    def test_places(self):
        for many in range(4):
            text = OpenText(many, [("a", (1,) * (many + 1))])
            none = (0,) * (many + 1)
            for call in [lambda value: spliced(text, value, None, None), lambda value: put(text, value, None), lambda value: taken(text, value, None), lambda value: filling(text, text, value, None),
                         lambda value: spliced(text, none, value, None), lambda value: taken(text, none, value), lambda value: filling(text, text, none, value)]:
                refused(self, "InvalidForm", lambda value: is_form(value, many), call)
        text = OpenText(1, [("ab", (0, 2)), ("c", (1, 0))])
        for form in [(0, 1), (1, 0), (0, 3), (1, 2), (2, 4), (0, 6), (FAR, FAR)]:
            for call in [lambda value: spliced(text, value, None, None), lambda value: put(text, value, None), lambda value: taken(text, value, None), lambda value: filling(text, text, value, None),
                         lambda value: spliced(text, (0, 0), value, None), lambda value: taken(text, (0, 0), value), lambda value: filling(text, text, (0, 0), value)]:
                told(self, "NotOpen", form, call, form)

    def test_places_not_in_order(self):
        text = OpenText(2, [("a", (0, 2, 2)), ("c", (1, 0, 0))])
        for start, end in [((0, 2, 0), (0, 1, 1)), ((0, 1, 0), (0, 0, 1)), ((1, 2, 2), (0, 0, 0)), ((0, 2, 2), (0, 2, 1))]:
            told_two(self, "NotInOrder", start, end, spliced, text, start, end, None)
            told_two(self, "NotInOrder", start, end, taken, text, start, end)
            told_two(self, "NotInOrder", start, end, filling, text, text, start, end)

    def test_the_first_wrong_one_is_told(self):
        text = OpenText(1, [("ab", (0, 2)), ("c", (1, 0))])
        form, place = (0, 0, 0), (0, 1)
        told(self, "InvalidForm", form, spliced, text, form, None, None)
        told(self, "NotOpen", place, spliced, text, place, form, None)
        told(self, "NotOpen", place, taken, text, place, (0, 0))
        told(self, "NotOpen", place, spliced, text, (0, 4), place, None)
        other = OpenText(2, [])
        told(self, "Unlike", other, filling, text, other, None, None)
        told(self, "InvalidText", None, filling, text, None, None, None)
        told(self, "Unlike", other, put, text, (0, 0), other)
        long = OpenText(2, [("a", (2000, 0, 0))])
        told(self, "Unlike", long, put, text, (0, 0), long)

    def test_by_names_and_texts_stay(self):
        text, given = OpenText(1, [("ab", (0, 1)), ("a", (1, 0))]), OpenText(1, [("c", (1, 0))])
        for _ in range(2):
            self.assertEqual(spliced(text=text, start=(0, 0), end=(1, 0), given=given), put(text=taken(text=text, start=(0, 0), end=(1, 0)), place=(0, 0), given=given))
            self.assertEqual([least_splice(old=text, new=given), first_start(old=text, new=given), filling(old=text, new=given, start=(0, 0), end=(1, 2))], [((0, 0), (1, 2), given), (0, 0), given])
        self.assertEqual([text.pieces(), given.pieces()], [[("ab", (0, 1)), ("a", (1, 0))], [("c", (1, 0))]])


if __name__ == "__main__":
    unittest.main()
