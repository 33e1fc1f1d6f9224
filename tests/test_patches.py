"""[65] to [67]: patches, undone, one after another, and taken over from another hand."""

import unittest

from countscribe.cuts import parts
from countscribe.desks import Desk
from countscribe.errors import Clash, TooLong
from countscribe.patches import Patch, after, merged, patches_part, then, undone
from countscribe.places import is_open_place
from countscribe.texts import OpenText, joined, length, written
from helper import FAR, all_points, chances, refused, run_example, strange_values, told, told_two, word_at
from plainpatches import all_merged, at_point, clash_of, effect, effect_of_both, some_base, some_splices, spliced_word
from plainplaces import is_at_most

EXAMPLE = """
from countscribe.patches import Patch, after, merged, then, undone
from countscribe.texts import OpenText
text = OpenText(2, [("a", (0, 1, 0)), ("b", (1, 0, 0)), ("a", (0, 0, 1))])
one = Patch(text, [((0, 0, 0), (0, 1, 0), OpenText(2, [("c", (0, 2, 0))]))])
other = Patch(text, [((1, 1, 0), (1, 1, 0), OpenText(2, [("d", (1, 0, 0))]))])
[merged(one, other).result().pieces(), after(other, one, False).splices()[0][:2], undone(one).splices()[0][:2]]
# [[('c', (0, 2, 0)), ('bd', (1, 0, 0)), ('a', (0, 0, 1))], ((1, 2, 0), (1, 2, 0)), ((0, 0, 0), (0, 2, 0))]
[then(one, after(other, one, False)) == merged(one, other), len(merged(one, other).splices())]
# [True, 2]
"""


def some_patch(chance, text=None, most=3):
    text = some_base(chance) if text is None else text
    return Patch(text, some_splices(chance, text, most))


def points_of(text):
    return all_points(text.many(), 2)


def effect_at(patch, point):
    """What a patch keeps and puts at a point."""
    return effect(len(written(patch.text(), point)), at_point(patch.splices(), point))


def borders(patch):
    """The places of the result at which what was given begins and ends."""
    found, shift = [], (0,) * (patch.text().many() + 1)
    for start, end, given in patch.splices():
        low = tuple([a + b for a, b in zip(start, shift)])
        high = tuple([a + b for a, b in zip(low, length(given))])
        found.append((low, high))
        shift = tuple([a - b for a, b in zip(high, end)])
    return found


def is_torn(one, other):
    return not is_at_most(one, other) and not is_at_most(other, one)


class ExampleTest(unittest.TestCase):
    def test_example(self):
        run_example(self, EXAMPLE)


class PatchTest(unittest.TestCase):
    def test_against_the_words(self):
        chance = chances(240)
        for _ in range(400):
            text = some_base(chance)
            splices = some_splices(chance, text, 4)
            patch = Patch(text, splices)
            self.assertEqual(patch.text(), text)
            for point in points_of(text):
                word = written(text, point)
                self.assertEqual(written(patch.result(), point), spliced_word(word, at_point(splices, point)))
                self.assertEqual(effect_at(patch, point), effect(len(word), at_point(splices, point)))

    def test_splices_that_are_left(self):
        chance = chances(241)
        fewer = 0
        for _ in range(400):
            text = some_base(chance)
            splices = some_splices(chance, text, 4)
            rows = []
            for start, end, given in splices:
                if start == end and not given.pieces():
                    continue
                if rows and rows[-1][1] == start:
                    low, _, ahead = rows.pop()
                    start, given = low, joined(ahead, given)
                rows.append((start, end, given))
            found = Patch(text, splices).splices()
            self.assertEqual(found, rows)
            fewer += len(found) < len(splices)
            again = Patch(text, found)
            self.assertEqual([again == Patch(text, splices), again.splices(), patches_part(again, Patch(text, splices))], [True, rows, None])
        self.assertGreater(fewer, 80)

    def test_splices_put_down_in_parts(self):
        """A splice in two that touch, with splices that do nothing between, is the same patch."""
        chance = chances(242)
        parted = 0
        for _ in range(300):
            patch = some_patch(chance)
            text, rows = patch.text(), []
            none = OpenText(text.many(), [])
            for start, end, given in patch.splices():
                middle = chance.choice([start, end])
                low, high = parts(given, [chance.choice([(0,) * (text.many() + 1), length(given)])])
                rows.extend([(start, start, none), (start, middle, low), (middle, middle, none), (middle, end, high), (end, end, none)])
            parted += len(rows) > 0
            self.assertEqual(Patch(text, rows), patch)
            self.assertEqual(Patch(text, rows).result(), patch.result())
        self.assertGreater(parted, 100)

    def test_equal_patches_and_points_that_part_others(self):
        chance = chances(243)
        alike = 0
        for _ in range(500):
            one = some_patch(chance, None, 2)
            text = one.text()
            other = Patch(text, some_splices(chance, text, 2)) if chance.random() < 0.5 else Patch(text, [item for item in one.splices() if chance.random() < 0.6])
            point = patches_part(one, other)
            self.assertIs(one == other, one.splices() == other.splices())
            self.assertIs(point is None, one == other)
            if point is None:
                alike += 1
                continue
            self.assertEqual([len(point), all([isinstance(count, int) and count >= 0 for count in point])], [text.many(), True])
            if sum([a * n for a, n in zip(length(text)[1:], point)]) < 20000:
                self.assertNotEqual(effect_at(one, point), effect_at(other, point))
        self.assertGreater(alike, 60)

    def test_patches_that_differ_far_out(self):
        """The same words at small counts: still not the same patch."""
        text = OpenText(2, [("a", (0, 1, 1))])
        one, other = Patch(text, [((0, 1, 0), (0, 1, 0), OpenText(2, [("a", (1, 0, 0))]))]), Patch(text, [((0, 0, 1), (0, 0, 1), OpenText(2, [("a", (1, 0, 0))]))])
        self.assertEqual([one.result() == other.result(), one == other], [True, False])
        point = patches_part(one, other)
        self.assertNotEqual(point[0], point[1])
        one, other = Patch(text, [((0, 0, 0), (0, 0, 0), OpenText(2, [("a", (0, FAR, 0))]))]), Patch(text, [((0, 0, 0), (0, 0, 0), OpenText(2, [("a", (0, 0, FAR))]))])
        point = patches_part(one, other)
        self.assertNotEqual(point[0], point[1])
        one, other = Patch(text, [((0, 0, 0), (0, 1, 1), OpenText(2, []))]), Patch(text, [])
        self.assertNotEqual(patches_part(one, other), [0, 0])
        word = OpenText(0, [("ab", (1,))])
        self.assertEqual([patches_part(Patch(word, []), Patch(word, [((0,), (1,), OpenText(0, []))])), patches_part(Patch(word, []), Patch(word, []))], [[], None])

    def test_no_splices_and_twenty(self):
        for many in range(4):
            one, none = (1,) + (0,) * many, (0,) * (many + 1)
            text = OpenText(many, [("ab", (1,) * (many + 1))])
            self.assertEqual([Patch(text, []).splices(), Patch(text, []).result(), Patch(text, [(none, none, OpenText(many, []))]) == Patch(text, [])], [[], text, True])
            empty = Patch(OpenText(many, []), [(none, none, text)] * 3)
            self.assertEqual([empty.result(), len(empty.splices())], [OpenText(many, text.pieces() * 3), 1])
            text = OpenText(many, [("ab" * 20, one), ("c", (0,) + (1,) * many)] if many else [("ab" * 20, one)])
            rows = [((2 * k,) + (0,) * many, (2 * k + k % 2,) + (0,) * many, OpenText(many, [("x", (1 + k % 3,) + (k % 2,) * many)])) for k in range(20)]
            patch = Patch(text, rows)
            self.assertEqual([len(patch.splices()), patch.splices()], [20, rows])
            for point in all_points(many, 1):
                self.assertEqual(written(patch.result(), point), spliced_word(written(text, point), at_point(rows, point)))
            self.assertEqual([undone(patch).result(), undone(undone(patch))], [text, patch])

    def test_measures_of_2000_and_2001(self):
        text = OpenText(1, [("a" * 500 + "b", (0, 9)), ("c", (1, 0))])
        inside, end = (0, 501 * 2), (0, 501 * 9)
        for size, more in [(500, 0), (500, 1)]:
            splices = [(inside, inside, OpenText(1, [("x", (size + more, 0))])), (end, end, OpenText(1, [("y", (497, 0))]))]
            if more:
                told(self, "TooLong", 2001, Patch, text, splices)
            else:
                self.assertEqual(len(Patch(text, splices).result().pieces()), 4)
        # What is given counts each by itself, and where a splice does nothing nothing is cut.
        power = OpenText(1, [("xy", (0, 1))])
        patch = Patch(text, [(end, end, power)] * 3 + [(end, end, OpenText(1, []))])
        self.assertEqual([patch.result().pieces()[1], len(patch.splices())], [("xy", (0, 3)), 1])
        self.assertEqual(len(Patch(text, [(end, end, power)] * 749).splices()), 1)
        told(self, "TooLong", 2002, Patch, text, [(end, end, power)] * 750)
        long = OpenText(1, [("a" * 1500 + "b", (0, 9))])
        self.assertEqual(Patch(long, [((0, 1501), (0, 1501), OpenText(1, []))]), Patch(long, []))
        told(self, "TooLong", 3003, Patch, long, [((0, 1501), (0, 1501), OpenText(1, [("z", (1, 0))]))])
        self.assertEqual(len(Patch(long, [((0, 1501), (0, 1501 * 9), OpenText(1, []))]).splices()), 1)

    def test_far_numbers(self):
        text = OpenText(2, [("ab", (0, FAR, 2))])
        patch = Patch(text, [((0, 2, 0), (0, FAR, 2), OpenText(2, [("ab", (1, 0, 0))])), ((0, FAR, 4), (0, 2 * FAR, 4), OpenText(2, []))])
        self.assertEqual(patch.result().pieces(), [("ab", (0, 1, 1)), ("ab", (1, 0, 0))])
        self.assertEqual(undone(patch).result(), text)
        point = patches_part(patch, Patch(text, []))
        self.assertEqual(len(point), 2)


class UndoneTest(unittest.TestCase):
    def test_against_the_words(self):
        chance = chances(244)
        for _ in range(300):
            patch = some_patch(chance, None, 4)
            back = undone(patch)
            self.assertEqual([back.text(), back.result(), undone(back)], [patch.result(), patch.text(), patch])
            self.assertEqual([undone(back).result(), [row[:2] for row in back.splices()]], [patch.result(), borders(patch)])
            for (start, end, _), (_, _, out) in zip(patch.splices(), back.splices()):
                self.assertEqual(out, parts(patch.text(), [start, end])[1])
            for point in points_of(patch.text()):
                self.assertEqual(spliced_word(written(patch.result(), point), at_point(back.splices(), point)), written(patch.text(), point))
            both = then(patch, back)
            self.assertEqual(both.result(), patch.text())
            for start, end, given in both.splices():
                self.assertEqual(given, parts(patch.text(), [start, end])[1])

    def test_no_too_long(self):
        long = OpenText(1, [("a" * 900 + "b", (0, 9))])
        patch = Patch(long, [((0, 901 * 2), (0, 901 * 5), OpenText(1, []))])
        back = undone(patch)
        self.assertEqual([back.result(), undone(back) == patch, len(back.splices())], [long, True, 1])
        told(self, "TooLong", 901 * 3, Patch, back.text(), back.splices())
        both = then(back, patch)
        self.assertEqual([both.result(), both.splices()], [patch.result(), []])
        two = then(patch, back)
        self.assertEqual([two.result(), [row[:2] for row in two.splices()]], [long, [((0, 901 * 2), (0, 901 * 5))]])


class ThenTest(unittest.TestCase):
    def test_against_the_words(self):
        chance = chances(245)
        counts = {True: 0, False: 0}
        for _ in range(900):
            first = some_patch(chance, None, chance.choice([1, 3]))
            second = some_patch(chance, first.result(), chance.choice([1, 3]))
            found = then(first, second)
            torn = any([is_torn(place, border) for start, end, _ in second.splices() for place in [start, end] for row in borders(first) for border in row])
            self.assertIs(found is None, torn)
            counts[torn] += 1
            if torn:
                continue
            text = first.text()
            self.assertEqual([found.text(), found.result()], [text, second.result()])
            # The splices that are left are those of a patch that is handed in.
            self.assertEqual(Patch(text, found.splices()), found)
            self.assertEqual(Patch(text, found.splices()).result(), found.result())
            for point in points_of(text):
                size = len(written(text, point))
                both = effect_of_both(size, at_point(first.splices(), point), at_point(second.splices(), point))
                self.assertEqual(effect_at(found, point), both)
        self.assertTrue(counts[True] > 15 and counts[False] > 300, counts)

    def test_three_in_turn(self):
        chance = chances(246)
        done = 0
        for _ in range(400):
            one = some_patch(chance, None, 2)
            two = some_patch(chance, one.result(), 2)
            three = some_patch(chance, two.result(), 2)
            left = then(one, two)
            right = then(two, three)
            left = None if left is None else then(left, three)
            right = None if right is None else then(one, right)
            if left is not None and right is not None:
                self.assertEqual(left, right)
                done += 1
        self.assertGreater(done, 150)

    def test_torn_from_a_border(self):
        text, letter = OpenText(1, [("a", (3, 1))]), OpenText(1, [("a", (1, 0))])
        first = Patch(text, [((1, 0), (1, 0), letter)])
        for place, torn in [((0, 1), True), ((1, 1), True), ((0, 0), False), ((2, 0), False), ((4, 1), False), ((2, 1), False), ((3, 0), False)]:
            second = Patch(first.result(), [(place, place, OpenText(1, [("c", (1, 0))]))])
            self.assertIs(then(first, second) is None, torn, place)
        # Only a start or only an end that is torn.
        for start, end in [((0, 1), (4, 1)), ((0, 0), (0, 1))]:
            self.assertIsNone(then(first, Patch(first.result(), [(start, end, OpenText(1, []))])))
        self.assertEqual(then(first, Patch(first.result(), [])), first)
        self.assertEqual(then(Patch(text, []), first), first)

    def test_what_touches(self):
        text, c, d = OpenText(1, [("a", (0, 1)), ("b", (1, 0))]), OpenText(1, [("c", (1, 0))]), OpenText(1, [("d", (0, 1))])
        first = Patch(text, [((0, 1), (0, 1), c)])
        for place in [(0, 1), (1, 1)]:
            both = then(first, Patch(first.result(), [(place, place, d)]))
            self.assertEqual([len(both.splices()), both.splices()[0][:2]], [1, ((0, 1), (0, 1))])
        gone = then(first, Patch(first.result(), [((0, 1), (1, 1), OpenText(1, []))]))
        self.assertEqual([gone, gone.splices()], [Patch(text, []), []])
        both = then(first, Patch(first.result(), [((0, 0), (0, 1), OpenText(1, []))]))
        self.assertEqual(both.splices(), [((0, 0), (0, 1), c)])
        both = then(first, Patch(first.result(), [((0, 0), (2, 1), d)]))
        self.assertEqual(both.splices(), [((0, 0), (1, 1), d)])
        both = then(first, Patch(first.result(), [((0, 0), (0, 0), d), ((2, 1), (2, 1), d)]))
        self.assertEqual(both.splices(), [((0, 0), (0, 0), d), ((0, 1), (0, 1), c), ((1, 1), (1, 1), d)])


class MergedTest(unittest.TestCase):
    def test_against_each_other(self):
        chance = chances(247)
        counts = {True: 0, False: 0}
        same = 0
        for _ in range(1400):
            one = some_patch(chance, None, chance.choice([1, 2, 3]))
            other = some_patch(chance, one.text(), chance.choice([1, 2, 3]))
            if chance.random() < 0.3:
                # The other hand puts where this one starts or ends.
                places = [chance.choice(row[:2]) for row in one.splices() if chance.random() < 0.8]
                other = Patch(one.text(), [(place, place, OpenText(one.text().many(), [("d", (1,) * len(place))])) for place in places])
            clash = clash_of(one.splices(), other.splices())
            counts[clash is None] += 1
            if clash is not None:
                told_two(self, "Clash", clash[0], clash[1], merged, one, other)
                for first in [True, False]:
                    told_two(self, "Clash", clash[0], clash[1], after, one, other, first)
                continue
            both = merged(one, other)
            self.assertEqual(both, Patch(one.text(), all_merged(one.splices(), other.splices())))
            self.assertEqual([then(one, after(other, one, False)), then(other, after(one, other, True))], [both, both])
            turned = merged(other, one)
            self.assertEqual([then(one, after(other, one, True)), then(other, after(one, other, False))], [turned, turned])
            same += turned != both
            self.assertEqual([after(one, other, True).text(), after(one, other, True).result()], [other.result(), both.result()])
        self.assertTrue(min(counts.values()) > 80 and same > 12, (counts, same))

    def test_places_after_another_patch(self):
        """Each place is more by what goes ahead of it and has been put, and less by what has been taken out."""
        chance = chances(248)
        for _ in range(400):
            one = some_patch(chance, None, 3)
            other = some_patch(chance, one.text(), 3)
            if clash_of(one.splices(), other.splices()) is not None:
                continue
            for first in [True, False]:
                rows = []
                for start, end, given in one.splices():
                    shift = (0,) * len(start)
                    for own_start, own_end, own in other.splices():
                        both = start == end == own_start == own_end
                        if is_at_most(own_end, start) and not (both and first):
                            shift = tuple([a + b + c - d for a, b, c, d in zip(shift, length(own), own_start, own_end)])
                    rows.append((tuple([a + b for a, b in zip(start, shift)]), tuple([a + b for a, b in zip(end, shift)]), given))
                self.assertTrue(all([is_open_place(other.result(), place) for row in rows for place in row[:2]]))
                self.assertEqual(after(one, other, first), Patch(other.result(), rows))

    def test_two_hands_at_one_place(self):
        text, c, d = OpenText(1, [("a", (0, 1)), ("b", (1, 0))]), OpenText(1, [("c", (1, 0))]), OpenText(1, [("d", (0, 1))])
        one, other = Patch(text, [((0, 1), (0, 1), c)]), Patch(text, [((0, 1), (0, 1), d)])
        self.assertEqual([merged(one, other).splices(), merged(other, one).splices()], [[((0, 1), (0, 1), joined(c, d))], [((0, 1), (0, 1), joined(d, c))]])
        self.assertEqual([after(one, other, True).splices(), after(one, other, False).splices()], [[((0, 1), (0, 1), c)], [((0, 2), (0, 2), c)]])
        # One puts where the other one takes out what is behind, or ahead.
        for start, end in [((0, 1), (1, 1)), ((0, 0), (0, 1))]:
            gone = Patch(text, [(start, end, OpenText(1, []))])
            self.assertEqual(merged(one, gone), merged(gone, one))
            self.assertEqual(merged(one, gone).splices(), [(start, end, c)])
        both = Patch(text, [((0, 0), (1, 1), OpenText(1, []))])
        told_two(self, "Clash", one.splices()[0], both.splices()[0], merged, one, both)
        told_two(self, "Clash", both.splices()[0], both.splices()[0], merged, both, both)
        nothing = Patch(text, [])
        self.assertEqual([merged(one, nothing), merged(nothing, one), after(one, nothing, True), after(nothing, one, True), merged(nothing, nothing)], [one, one, one, Patch(one.result(), []), nothing])
        self.assertEqual(merged(one, one).splices(), [((0, 1), (0, 1), joined(c, c))])

    def test_torn_places_clash(self):
        text, c = OpenText(2, [("a", (0, 1, 1))]), OpenText(2, [("c", (1, 0, 0))])
        one, other = Patch(text, [((0, 1, 0), (0, 1, 0), c)]), Patch(text, [((0, 0, 1), (0, 0, 1), c)])
        told_two(self, "Clash", one.splices()[0], other.splices()[0], merged, one, other)
        told_two(self, "Clash", one.splices()[0], other.splices()[0], after, one, other, True)
        # The first splice of the one that clashes, and the first of the other that clashes with it.
        text = OpenText(1, [("abcdef", (1, 0)), ("g", (0, 1))])
        none = OpenText(1, [])
        one = Patch(text, [((0, 0), (1, 0), none), ((2, 0), (6, 0), none)])
        other = Patch(text, [((1, 0), (2, 0), none), ((3, 0), (4, 0), none), ((5, 0), (6, 0), none)])
        told_two(self, "Clash", one.splices()[1], other.splices()[1], merged, one, other)

    def test_too_long(self):
        text = OpenText(1, [("c", (1, 0))])
        one, other = Patch(text, [((1, 0), (1, 0), OpenText(1, [("x", (700, 0))]))]), Patch(text, [((0, 0), (0, 0), OpenText(1, [("y", (1300, 0))]))])
        for first in [True, False]:
            told(self, "TooLong", 2001, after, one, other, first)
            told(self, "TooLong", 2001, after, other, one, first)
        told(self, "TooLong", 2001, merged, one, other)
        one = Patch(text, [((1, 0), (1, 0), OpenText(1, [("x", (699, 0))]))])
        self.assertEqual(length(merged(one, other).result()), (2000, 0))
        # Where both cut a power, merged is too long, but not the one after the other.
        long = OpenText(1, [("a" * 900 + "b", (0, 90))])
        one = Patch(long, [((0, 901 * 5), (0, 901 * 5), OpenText(1, [("x", (1, 0))]))])
        other = Patch(long, [((0, 901 * 10), (0, 901 * 20), OpenText(1, []))])
        told(self, "TooLong", 901 * 3 + 1, merged, one, other)
        moved = after(one, other, True)
        self.assertEqual([moved.text(), moved.splices()], [other.result(), one.splices()])
        told(self, "TooLong", 901 * 3 + 1, after, other, one, True)


class WrongInputsTest(unittest.TestCase):
    def test_texts_and_splices(self):
        refused(self, "InvalidText", lambda value: isinstance(value, OpenText), lambda value: Patch(value, None))
        text, none = OpenText(1, [("ab", (0, 2)), ("c", (1, 0))]), OpenText(1, [])
        refused(self, "InvalidSplices", lambda value: isinstance(value, list), lambda value: Patch(text, value))
        good = ((0, 0), (0, 2), none)
        for item in strange_values():
            told(self, "InvalidSplice", item, Patch, text, [good, item, None])
        for item in [((0, 0), (0, 2)), ((0, 0), (0, 2), none, none), [(0, 0), (0, 2), none], ((0, 1), (0, 2), none), ((0, 0), (0, 1), none), ((0, 4), (0, 2), none), ((0, 0), (0, 2), OpenText(2, [])),
                     ((0, 0), (0, 2), OpenText(0, [])), ((0, 0), (0, 2), "c"), ((0, 0, 0), (0, 2), none), ([0, 0], (0, 2), none), ((0, 0), None, none), ((False, 0), (0, 2), none), ((0, 0), (0, 2), None)]:
            told(self, "InvalidSplice", item, Patch, text, [item, None])
        for item in [((0, 0), (0, 4), none), ((0, 0), (0, 0), none)]:
            told(self, "InvalidSplice", item, Patch, text, [good, item, None])
        item = ((0, 0), (0, 2), none)
        told(self, "InvalidSplice", item, Patch, text, [good, item])
        torn = OpenText(2, [("a", (0, 1, 1))])
        item = ((0, 0, 1), (0, 1, 1), OpenText(2, []))
        told(self, "InvalidSplice", item, Patch, torn, [((0, 0, 0), (0, 1, 0), OpenText(2, [])), item])
        item = ((0, 1, 0), (0, 0, 1), OpenText(2, []))
        told(self, "InvalidSplice", item, Patch, torn, [item])
        told(self, "InvalidText", None, Patch, None, None)
        long = [(good[0], good[0], OpenText(1, [("x", (2000, 0))])), None]
        told(self, "InvalidSplice", None, Patch, text, long)

    def test_patches(self):
        text, patch = OpenText(1, []), Patch(OpenText(1, []), [])

        def is_patch(value):
            return isinstance(value, Patch)

        for call in [lambda value: undone(value), lambda value: then(value, None), lambda value: merged(value, None), lambda value: after(value, None, None), lambda value: patches_part(value, None),
                     lambda value: then(patch, value), lambda value: merged(patch, value), lambda value: after(patch, value, None), lambda value: patches_part(patch, value)]:
            refused(self, "InvalidPatch", is_patch, call)
        other = Patch(OpenText(1, [("a", (1, 0))]), [])
        wide = Patch(OpenText(2, []), [])
        for value in [other, wide]:
            for call in [lambda: then(patch, value), lambda: merged(patch, value), lambda: after(patch, value, None), lambda: patches_part(patch, value)]:
                told(self, "Unlike", value, call)
        refused(self, "InvalidFlag", lambda value: isinstance(value, bool), lambda value: after(patch, patch, value))
        clash = Patch(OpenText(1, [("a", (1, 0))]), [((0, 0), (1, 0), text)])
        told(self, "InvalidFlag", 1, after, clash, clash, 1)
        put = Patch(text, [((0, 0), (0, 0), OpenText(1, [("a", (1, 0))]))])
        told(self, "Unlike", put, then, put, put)

    def test_equal_to_no_other_objects(self):
        patch = Patch(OpenText(1, []), [])
        for value in strange_values():
            self.assertIs(patch == value, isinstance(value, Patch) and value.text() == OpenText(1, []) and not value.splices())
        self.assertFalse(patch == Patch(OpenText(1, [("a", (1, 0))]), []) or patch == Patch(OpenText(0, []), []) or patch == Desk(OpenText(1, [])))

    def test_by_names_and_lists_stay(self):
        text, none = OpenText(1, [("a", (1, 1))]), OpenText(1, [])
        splices = [((0, 0), (0, 1), none)]
        patch = Patch(text=text, splices=splices)
        splices.append(None)
        patch.splices().append(None)
        other = Patch(text, [((1, 1), (1, 1), text)])
        self.assertEqual([patch.splices(), patch.result(), patch.text()], [[((0, 0), (0, 1), none)], OpenText(1, [("a", (1, 0))]), text])
        self.assertEqual(merged(one=patch, other=other), then(first=patch, second=after(one=other, other=patch, first=False)))
        self.assertEqual([undone(patch=undone(patch)), patches_part(one=patch, other=patch)], [patch, None])
        self.assertEqual([patch.splices(), other.splices()], [[((0, 0), (0, 1), none)], [((1, 1), (1, 1), text)]])


if __name__ == "__main__":
    unittest.main()
