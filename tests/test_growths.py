"""[39]: numbers at all points that grow evenly behind some limits."""

import unittest
from itertools import product

from countscribe.growths import growth_along, growth_value, is_growth, least_growth
from countscribe.lines import Line, point_at
from countscribe.runs import is_run, run_value
from countscribe.texts import OpenText
from helper import FAR, all_points, answered_false, chances, is_number, refused, run_example, strange_values, told

EXAMPLE = """
from countscribe.growths import growth_along, growth_value, is_growth, least_growth
from countscribe.lines import Line, along, letters_along, place_on, point_at
corner, line = ([1, 1], [0, 0, 0, 1], [0, 0]), Line([1, 0], [1, 2])
[growth_along(corner, line), growth_value(([1], [4, 5], [3]), [10]), is_growth(1, ([1], [4, 5], [1])), least_growth([2], [4, 5, 6], [1])]
# [([0], 1, 0), 32, False, ([0], [4], [1])]
"""
NO_GROWTHS = [
    ([1], [4, 5], [1]), ([0], [], [0]), ([0], [1, 2], [0]), ([0], [1], []), ([0], [1], [0, 0]), ([], [], []), ([1, 1], [0, 0, 0], [0, 0]),
    ([1, 1], [0, 0, 1, 1], [1, 0]), ([1, 0], [2, 2], [0, 5]), ([-1], [], [0]), ([True], [1, 2], [0]), ([0], [True], [0]), ([0], [1], [False]),
    ([0], [None], [0]), ([0], [1], [None]), ((0,), [1], [0]), ([0], (1,), [0]), ([0], [1], (0,)), ([0], [1]), ([0], [1], [0], []), [[0], [1], [0]],
    ([0] * 4, [1], [0] * 4), ([10 ** 39], [1], [0]), ([10 ** 39] * 3, [1] * 8, [0] * 3), ([[]], [1], [0]), ([0], [[1]], [0]), ([0], ["1"], [0]),
]


def plain_number(limits, values, slopes, point):
    """The number of a growth at a point, as [39] has it."""
    table = dict(zip(product(*[range(limit + 1) for limit in limits]), values))
    low = tuple([min(limit, count) for limit, count in zip(limits, point)])
    return table[low] + sum([slope * (count - least) for slope, count, least in zip(slopes, point, low)])


def some_growth(chance):
    """A growth that need not be least, for 0 to 3 unknowns."""
    many = chance.randint(0, 3)
    limits = [chance.randint(0, 3) for _ in range(many)]
    slopes = [chance.randint(-2, 2) for _ in range(many)]
    least = [chance.randint(0, limit) for limit in limits]
    table = {}
    values = []
    for point in product(*[range(limit + 1) for limit in limits]):
        low = tuple([min(limit, count) for limit, count in zip(least, point)])
        if low not in table:
            table[low] = chance.choice([0, 1, chance.randint(-9, 9)])
        values.append(table[low] + sum([slope * (count - start) for slope, count, start in zip(slopes, point, low)]))
    return limits, values, slopes


class ExampleTest(unittest.TestCase):
    def test_example(self):
        run_example(self, EXAMPLE)


class LeastGrowthTest(unittest.TestCase):
    def test_against_all_numbers(self):
        chance = chances(110)
        shorter = 0
        for _ in range(2000):
            given = some_growth(chance)
            limits, values, slopes = given
            growth = least_growth(limits, values, slopes)
            for point in all_points(len(limits), 5 if len(limits) < 3 else 4):
                self.assertEqual(growth_value(growth, point), plain_number(*given, point))
            self.no_lesser(growth)
            for many in range(4):
                self.assertIs(is_growth(many, growth), many == len(limits))
            self.assertIs(is_growth(len(limits), given), given == growth)
            shorter += given != growth
        self.assertGreater(shorter, 800)

    def no_lesser(self, growth):
        """Check that no limit can be lesser: a growth with one has the slope already there."""
        limits, _, slopes = growth
        for at in range(len(limits)):
            if limits[at]:
                edge = [point for point in all_points(len(limits), max(limits)) if point[at] == limits[at]]
                ahead = [point[:at] + [point[at] - 1] + point[at + 1:] for point in edge]
                steps = [plain_number(*growth, one) - plain_number(*growth, other) for one, other in zip(edge, ahead)]
                self.assertNotEqual(steps, [slopes[at]] * len(steps))

    def test_same_numbers_same_least_growth(self):
        chance = chances(111)
        known = {}
        for _ in range(2000):
            limits = [chance.randint(0, 2), chance.randint(0, 1)]
            values = [chance.choice([0, 1]) for _ in range((limits[0] + 1) * (limits[1] + 1))]
            growth = least_growth(limits, values, [chance.choice([0, 1]), 0])
            key = repr([growth_value(growth, point) for point in all_points(2, 4)])
            self.assertEqual(known.setdefault(key, growth), growth)

    def test_edges(self):
        self.assertEqual([least_growth([], [7], []), growth_value(([], [7], []), []), growth_along(([], [7], []), Line([], []))], [([], [7], []), 7, ([], 7, 0)])
        self.assertEqual(least_growth([0, 0, 0], [-5], [1, 0, -1]), ([0, 0, 0], [-5], [1, 0, -1]))
        self.assertEqual(least_growth([999], list(range(0, 2000, 2)), [2]), ([0], [0], [2]))
        self.assertEqual(least_growth([999], [0] * 999 + [1], [0]), ([999], [0] * 999 + [1], [0]))
        self.assertEqual(least_growth([9, 9, 9], [3] * 1000, [0, 0, 0]), ([0, 0, 0], [3], [0, 0, 0]))
        values = [x * x * (y > 3) * (z > 0) for x, y, z in product(range(10), range(10), range(10))]
        self.assertEqual(least_growth([9, 9, 9], values, [0, 0, 0]),
                         ([9, 4, 1], [x * x * (y > 3) * (z > 0) for x, y, z in product(range(10), range(5), range(2))], [0, 0, 0]))
        far = 10 ** 28
        self.assertEqual(least_growth([2], [far, 2 * far, 3 * far], [far]), ([0], [far], [far]))
        self.assertEqual(growth_value(([0, 1], [far, 0], [-far, far]), [10 ** 29, 10 ** 29]), -far * 10 ** 29 + far * (10 ** 29 - 1))

    def test_great_limits(self):
        far = 10 ** 39
        for limits in [[far], [0, far], [far, far, far]]:
            values = [1] * 1000
            told(self, "InvalidList", values, least_growth, limits, values, [0] * len(limits))
            self.assertIs(is_growth(len(limits), (limits, values, [0] * len(limits))), False)


class AlongTest(unittest.TestCase):
    def test_against_all_numbers(self):
        chance = chances(112)
        for _ in range(1500):
            growth = least_growth(*some_growth(chance))
            many = len(growth[0])
            line = Line([chance.randint(0, 4) for _ in range(many)], [chance.choice([0, 0, 1, 2, 5]) for _ in range(many)])
            run = growth_along(growth, line)
            self.assertIs(is_run(run), True)
            for count in list(range(12)) + [FAR]:
                self.assertEqual(run_value(run, count), plain_number(*growth, point_at(line, count)))

    def test_edges(self):
        growth = ([2, 1], [0, 1, 5, 0, 2, 9], [3, -1])
        self.assertIs(is_growth(2, growth), True)
        self.assertEqual(growth_along(growth, Line([1, 1], [0, 0])), ([], 0, 0))
        self.assertEqual(growth_along(growth, Line([0, 0], [1, 0])), ([0, 5], 2, 3))
        self.assertEqual(growth_along(growth, Line([FAR, 0], [0, 1])), ([3 * FAR - 4], 3 * FAR + 3, -1))
        self.assertEqual(growth_along(growth, Line([FAR, FAR], [FAR, 1])), ([], 9 + 3 * (FAR - 2) - (FAR - 1), 3 * FAR - 1))
        tall = ([999], [0] * 999 + [1], [0])
        self.assertEqual(growth_along(tall, Line([0], [1])), ([0] * 999, 1, 0))
        self.assertEqual(growth_along(tall, Line([0], [400])), ([0] * 3, 1, 0))
        self.assertEqual(growth_along(tall, Line([999], [400])), ([], 1, 0))


class WrongInputsTest(unittest.TestCase):
    def test_growths(self):
        line = Line([0], [1])
        for value in NO_GROWTHS:
            for many in range(4):
                self.assertIs(is_growth(many, value), False, value)
            told(self, "InvalidGrowth", value, growth_value, value, [0])
            told(self, "InvalidGrowth", value, growth_along, value, line)
        right = [([], [5], []), ([0], [1], [0]), ([0, 0], [1], [0, 0])]
        answered_false(self, lambda value: value == right[1], lambda value: is_growth(1, value))
        refused(self, "InvalidGrowth", lambda value: value in right, lambda value: growth_value(value, [0]))
        refused(self, "InvalidGrowth", lambda value: value in right, lambda value: growth_along(value, line))

    def test_numbers_of_unknowns(self):
        refused(self, "InvalidNumber", lambda value: is_number(value, 0, 3), lambda value: is_growth(value, ([], [5], [])))
        told(self, "InvalidNumber", 4, is_growth, 4, None)
        self.assertEqual([is_growth(many, ([], [5], [])) for many in range(4)], [True, False, False, False])

    def test_lists(self):
        for value in [None, 0, (0,), "", [-1], [True], [None], ["a"], [0] * 4, {}, [[0]], [0.5]]:
            told(self, "InvalidList", value, least_growth, value, [1], [0])
        for value in [None, 0, (1,), "a", [], [1, 2], [True], [None], ["a"], {0: 1}, [[1]]]:
            told(self, "InvalidList", value, least_growth, [0], value, [0])
            if value != []:
                told(self, "InvalidList", value, least_growth, [0], [1], value)
        for value in [[], [1, 1]]:
            told(self, "InvalidList", value, least_growth, [0], [1], value)
        one, other, third = [-1], [None], [True]
        told(self, "InvalidList", one, least_growth, one, other, third)
        told(self, "InvalidList", other, least_growth, [0], other, third)

    def test_points_and_lines(self):
        growth = ([0], [1], [0])
        refused(self, "InvalidPoint", lambda value: isinstance(value, list) and len(value) == 1 and is_number(value[0], 0, 10 ** 99),
                lambda value: growth_value(growth, value))
        refused(self, "InvalidLine", lambda value: isinstance(value, Line), lambda value: growth_along(growth, value))
        for line in [Line([], []), Line([0, 0], [0, 0])]:
            told(self, "Unlike", line, growth_along, growth, line)
        wrong = ([1], [4, 5], [1])
        told(self, "InvalidGrowth", wrong, growth_value, wrong, None)
        told(self, "InvalidGrowth", wrong, growth_along, wrong, None)

    def test_lists_that_are_handed_in_stay(self):
        limits, values, slopes = [1], [4, 6], [1]
        growth = least_growth(limits=limits, values=values, slopes=slopes)
        self.assertEqual(growth, ([1], [4, 6], [1]))
        growth[0].append(1), growth[1].append(1), growth[2].append(1)
        self.assertEqual((limits, values, slopes), ([1], [4, 6], [1]))
        growth = (limits, values, slopes)
        self.assertEqual([is_growth(many=1, value=growth), growth_value(growth=growth, point=[5])], [True, 10])
        run = growth_along(growth=growth, line=Line([0], [1]))
        run[0].append(1)
        self.assertEqual((growth, growth_along(growth, Line([0], [1]))), (([1], [4, 6], [1]), ([4], 6, 1)))

    def test_judging_never_fails(self):
        for value in strange_values() + [OpenText(1, [])]:
            for given in [value, (value, [1], [0]), ([0], value, [0]), ([0], [1], value), ([value], [1], [0]), ([0], [value], [0])]:
                for many in range(4):
                    self.assertIn(is_growth(many, given), [True, False])


if __name__ == "__main__":
    unittest.main()
