"""[61], [62]: places in order, and marks that are moved."""

import unittest
from itertools import product

from countscribe.marks import greatest_place, in_order, least_place, mark_moved, torn_points
from countscribe.places import is_open_place
from helper import FAR, all_points, chances, is_number, refused, run_example, some_text, told, told_two, value_at
from plainplaces import is_at_most, plain_places

EXAMPLE = """
from countscribe.marks import mark_moved, torn_points
[torn_points(2, (0, 1, 0), (0, 0, 1)), torn_points(1, (0, 1), (5, 0)), mark_moved(1, (0, 2), "right", (0, 2), (0, 2), (0, 1)), mark_moved(1, (0, 1), "left", (5, 0), (5, 0), (1, 0))]
# [([0, 1], [1, 0]), ([0], [6]), (0, 3), None]
"""


def is_form(value, many):
    return isinstance(value, tuple) and len(value) == many + 1 and all([is_number(number, 0, 10 ** 99) for number in value])


def some_form(chance, many, most):
    return tuple([chance.randint(0, most) for _ in range(many + 1)])


class ExampleTest(unittest.TestCase):
    def test_example(self):
        run_example(self, EXAMPLE)


class PlacesTest(unittest.TestCase):
    def test_against_all_points(self):
        chance = chances(220)
        torn = 0
        for _ in range(1500):
            many = chance.randint(0, 3)
            one, other = some_form(chance, many, chance.choice([1, 3])), some_form(chance, many, chance.choice([1, 3]))
            points = sorted([(sum(point), point) for point in all_points(many, 4)])
            less = [point for _, point in points if value_at(one, point) < value_at(other, point)]
            more = [point for _, point in points if value_at(one, point) > value_at(other, point)]
            self.assertIs(in_order(many, one, other), not (less and more))
            self.assertIs(in_order(many, one, other), is_at_most(one, other) or is_at_most(other, one))
            found = torn_points(many, one, other)
            self.assertEqual(found, (less[0], more[0]) if less and more else None, (one, other))
            torn += found is not None
            least, greatest = least_place(many, one, other), greatest_place(many, one, other)
            self.assertEqual([least, greatest], [tuple(map(min, one, other)), tuple(map(max, one, other))])
        self.assertGreater(torn, 150)

    def test_larger_numbers(self):
        """The least points against all points with the same sum, and against those with one less."""
        chance = chances(221)
        for _ in range(400):
            many = chance.randint(1, 3)
            one, other = (chance.randint(0, 60),) + some_form(chance, many - 1, 9), (0,) + some_form(chance, many - 1, 9)
            if in_order(many, one, other):
                continue
            point, again = torn_points(many, one, other)
            self.assertEqual(again, [0] * many if one[0] else torn_points(many, other, one)[0])
            self.assertLess(value_at(one, point), value_at(other, point))
            total = sum(point)
            for found in self.points_of_sum(many, total - 1):
                self.assertGreaterEqual(value_at(one, found), value_at(other, found))
            for found in self.points_of_sum(many, total):
                self.assertTrue(found >= point or value_at(one, found) >= value_at(other, found))

    def points_of_sum(self, many, total):
        if many == 1:
            return [[total]] if total >= 0 else []
        return [[count] + rest for count in range(total + 1) for rest in self.points_of_sum(many - 1, total - count)]

    def test_numbers_of_30_figures(self):
        self.assertEqual(torn_points(1, (FAR, 0), (0, 1)), ([FAR + 1], [0]))
        self.assertEqual(torn_points(2, (FAR, 0, 7), (0, 2, 7)), ([FAR // 2 + 1, 0], [0, 0]))
        self.assertEqual(torn_points(3, (FAR, 0, 0, 0), (0, 1, 2, 2)), ([0, 0, FAR // 2 + 1], [0, 0, 0]))
        self.assertEqual(torn_points(3, (FAR + 1, 0, 0, 0), (0, 2, 1, 1)), ([FAR // 2 + 1, 0, 0], [0, 0, 0]))
        self.assertEqual(torn_points(3, (FAR, 0, FAR, 0), (0, FAR, 0, 0)), ([2, 0, 0], [0, 0, 0]))
        # 3 a + 2 b + c is above FAR, the sum of the three is FAR // 3 + 1, and as little as can be stands first.
        point, _ = torn_points(3, (FAR, 0, 0, 0), (0, 3, 2, 1))
        self.assertEqual(point, [FAR // 3, 1, 0])
        self.assertEqual([in_order(1, (FAR, FAR), (FAR, FAR)), in_order(1, (FAR, FAR), (FAR - 1, FAR + 1)), torn_points(1, (FAR, 5), (FAR, 5))], [True, False, None])

    def test_no_unknowns(self):
        self.assertEqual([in_order(0, (3,), (1,)), torn_points(0, (0,), (9,)), least_place(0, (3,), (1,)), greatest_place(0, (3,), (1,))], [True, None, (1,), (3,)])

    def test_both_of_two_open_places_are_open(self):
        chance = chances(222)
        torn = 0
        for _ in range(60):
            text = some_text(chance, chance.randint(1, 3), 4)
            places = plain_places(text)
            for one, other in product(places[:12], places[-12:]):
                torn += not in_order(text.many(), one, other)
                self.assertIs(is_open_place(text, least_place(text.many(), one, other)), True)
                self.assertIs(is_open_place(text, greatest_place(text.many(), one, other)), True)
        self.assertGreater(torn, 150)


class MarksTest(unittest.TestCase):
    def test_by_its_cases_and_by_values(self):
        chance = chances(223)
        cases = {}
        for _ in range(4000):
            many = chance.randint(0, 3)
            place, start, end = [some_form(chance, many, chance.choice([1, 2])) for _ in range(3)]
            if chance.random() < 0.3:
                end = start
            if not is_at_most(start, end):
                start, end = tuple(map(min, start, end)), tuple(map(max, start, end))
            if chance.random() < 0.3:
                place = chance.choice([start, end])
            length, side = some_form(chance, many, 2), chance.choice(["left", "right"])
            found = mark_moved(many, place, side, start, end, length)
            gone = tuple([a + b for a, b in zip(start, length)])
            if is_at_most(place, start) and place != start:
                case, wanted = "ahead", place
            elif is_at_most(end, place) and place != end:
                case, wanted = "behind", tuple([a - b + c for a, b, c in zip(place, end, gone)])
            elif is_at_most(start, place) and is_at_most(place, end):
                case, wanted = "within" + side, start if side == "left" else gone
            else:
                case, wanted = "torn", None
            self.assertEqual(found, wanted)
            cases[case] = cases.get(case, 0) + 1
            if found is not None:
                self.check_values(many, place, side, start, end, length, found)
        self.assertTrue(len(cases) == 5 and min(cases.values()) > 200, cases)

    def check_values(self, many, place, side, start, end, length, found):
        for point in all_points(many, 2):
            m, a, b, c, value = [value_at(form, point) for form in [place, start, end, length, found]]
            if m < a:
                self.assertEqual(value, m)
            elif m > b:
                self.assertEqual(value, m - b + a + c)
            else:
                self.assertIn(value, [a, a + c])
            if a < m < b:
                self.assertEqual(value, a if side == "left" else a + c)

    def test_edges(self):
        for side, place in [("left", (2, 1)), ("right", (2, 4))]:
            for own in [(2, 1), (3, 1), (3, 2), (3, 5)]:
                self.assertEqual(mark_moved(1, own, side, (2, 1), (3, 5), (0, 3)), place)
            self.assertEqual([mark_moved(1, (2, 0), side, (2, 1), (3, 5), (0, 3)), mark_moved(1, (4, 5), side, (2, 1), (3, 5), (0, 3))], [(2, 0), (3, 4)])
            self.assertEqual([mark_moved(1, (9, 0), side, (2, 1), (3, 5), (0, 3)), mark_moved(1, (0, 9), side, (2, 1), (3, 5), (0, 3)), mark_moved(1, (2, 6), side, (2, 1), (3, 5), (0, 3))], [None] * 3)
            self.assertEqual(mark_moved(1, (1, 1), side, (1, 1), (1, 1), (0, 0)), (1, 1))
            self.assertEqual([mark_moved(1, own, side, (1, 1), (1, 1), (2, 0)) for own in [(0, 1), (1, 2), (0, 2)]], [(0, 1), (3, 2), None])
        self.assertEqual([mark_moved(2, (FAR, FAR, 0), "left", (0, 1, 0), (FAR, FAR, 0), (1, 1, 1)), mark_moved(2, (FAR, FAR, FAR), "left", (0, 1, 0), (FAR, FAR, 0), (1, 1, 1))],
                         [(0, 1, 0), (1, 2, FAR + 1)])
        self.assertEqual([mark_moved(0, (4,), "left", (4,), (4,), (3,)), mark_moved(0, (4,), "right", (4,), (4,), (3,)), mark_moved(0, (5,), "left", (4,), (4,), (3,))], [(4,), (7,), (8,)])


class WrongInputsTest(unittest.TestCase):
    def test_places(self):
        for call in [in_order, torn_points, least_place, greatest_place]:
            refused(self, "InvalidNumber", lambda value: is_number(value, 0, 3), lambda value: call(value, None, None))
            for many in range(4):
                form = (1,) * (many + 1)
                refused(self, "InvalidForm", lambda value: is_form(value, many), lambda value: call(many, value, None))
                refused(self, "InvalidForm", lambda value: is_form(value, many), lambda value: call(many, form, value))

    def test_marks(self):
        form = (1, 1)
        refused(self, "InvalidNumber", lambda value: is_number(value, 0, 3), lambda value: mark_moved(value, None, None, None, None, None))
        refused(self, "InvalidForm", lambda value: is_form(value, 1), lambda value: mark_moved(1, value, None, None, None, None))
        refused(self, "InvalidSide", lambda value: False, lambda value: mark_moved(1, form, value, None, None, None))
        refused(self, "InvalidForm", lambda value: is_form(value, 1), lambda value: mark_moved(1, form, "left", value, None, None))
        refused(self, "InvalidForm", lambda value: is_form(value, 1), lambda value: mark_moved(1, form, "right", form, value, None))
        refused(self, "InvalidForm", lambda value: is_form(value, 1), lambda value: mark_moved(1, form, "right", form, form, value))
        for side in ["Left", "lef", "left ", "right\n", "", ["left"], ("left",)]:
            told(self, "InvalidSide", side, mark_moved, 1, form, side, form, form, form)
        for start, end in [((1, 1), (0, 1)), ((0, 1), (1, 0)), ((FAR, 0), (0, FAR))]:
            told_two(self, "NotInOrder", start, end, mark_moved, 1, form, "left", start, end, None)

    def test_by_names(self):
        self.assertEqual([in_order(many=1, one=(1, 0), other=(0, 1)), torn_points(many=1, one=(1, 0), other=(0, 1)), least_place(many=1, one=(1, 0), other=(0, 1)), greatest_place(many=1, one=(1, 0), other=(0, 1))],
                         [False, ([2], [0]), (0, 0), (1, 1)])
        self.assertEqual(mark_moved(many=1, place=(1, 0), side="right", start=(1, 0), end=(1, 0), length=(0, 2)), (1, 2))
        for _ in range(2):
            found = torn_points(2, (1, 0, 0), (0, 1, 1))
            self.assertEqual(found, ([0, 2], [0, 0]))
            found[0].append(1), found[1].append(2)


if __name__ == "__main__":
    unittest.main()
