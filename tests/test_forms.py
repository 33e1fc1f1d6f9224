"""[2], [4] and [15]: forms, points and the general rules as they show there."""

import unittest
from itertools import product

from countscribe.forms import added, below, inserted, is_form, scaled, value
from helper import FAR, answered_false, chances, is_number, refused, run_example, strange_values, told

EXAMPLE = """
from countscribe.forms import added, below, inserted, is_form, scaled, value
[value((3, 1, 2), [10, 100]), added((1, 0, 2), (4, 5, 0)), scaled(3, (1, 2)), below((0, 1), (1, 1)), below((0, 2), (9, 1))]
# [213, (5, 5, 2), (3, 6), True, False]
[inserted((1, 2, 3), 1, [(5, 1), (0, 4)]), is_form(1, (0, 7)), is_form(2, (0, 7)), is_form(1, [0, 7])]
# [(11, 14), True, False, False]
"""


def is_plain_form(given, many):
    return isinstance(given, tuple) and len(given) == many + 1 and all([is_number(number, 0, 10 ** 99) for number in given])


def is_any_form(given):
    return any([is_plain_form(given, many) for many in range(4)])


def is_point(given, many):
    return isinstance(given, list) and len(given) == many and all([is_number(number, 0, 10 ** 99) for number in given])


def some_form(chance, many):
    return tuple([chance.choice([0, 0, 1, 2, 5]) for _ in range(many + 1)])


class ExampleTest(unittest.TestCase):
    def test_example(self):
        run_example(self, EXAMPLE)


class PlainCheckTest(unittest.TestCase):
    def test_values_sums_and_multiples(self):
        chance = chances(10)
        for _ in range(400):
            many = chance.randint(0, 3)
            one, other, number = some_form(chance, many), some_form(chance, many), chance.randint(0, 4)
            self.assertEqual(added(one, other), tuple([one[k] + other[k] for k in range(many + 1)]))
            self.assertEqual(scaled(number, one), tuple([one[k] * number for k in range(many + 1)]))
            for point in product(range(3), repeat=many):
                left = one[0] + sum([one[k + 1] * point[k] for k in range(many)])
                right = other[0] + sum([other[k + 1] * point[k] for k in range(many)])
                self.assertEqual(value(one, list(point)), left)
                self.assertEqual(value(added(one, other), list(point)), left + right)
                self.assertEqual(value(scaled(number, one), list(point)), number * left)

    def test_below_at_every_point(self):
        for many in range(3):
            forms = list(product(range(3), repeat=many + 1))
            points = [list(point) for point in product([0, 1, 9], repeat=many)]
            for one in forms:
                for other in forms:
                    everywhere = all([value(one, point) <= value(other, point) for point in points])
                    self.assertIs(below(one, other), everywhere)

    def test_inserted(self):
        chance = chances(11)
        for _ in range(400):
            own, many = chance.randint(0, 3), chance.randint(0, 3)
            form = some_form(chance, own)
            forms = [some_form(chance, many) for _ in range(own)]
            found = inserted(form, many, forms)
            self.assertEqual(len(found), many + 1)
            for point in product(range(3), repeat=many):
                inner = [value(given, list(point)) for given in forms]
                self.assertEqual(value(found, list(point)), value(form, inner))


class EdgesTest(unittest.TestCase):
    def test_no_unknowns_and_three(self):
        self.assertEqual([is_form(0, (0,)), is_form(0, ()), is_form(0, (0, 0)), is_form(3, (0, 1, 2, 3))], [True, False, False, True])
        self.assertEqual([value((7,), []), added((1,), (2,)), scaled(0, (5,)), below((1,), (1,))], [7, (3,), (0,), True])
        self.assertEqual([inserted((7,), 3, []), inserted((1, 2), 0, [(3,)])], [(7, 0, 0, 0), (7,)])
        self.assertEqual(inserted((1, 1, 1, 1), 3, [(0, 1, 0, 0), (0, 0, 1, 0), (0, 0, 0, 1)]), (1, 1, 1, 1))
        self.assertEqual(value((1, 2, 3, 4), [1, 10, 100]), 1 + 2 + 30 + 400)

    def test_far_numbers(self):
        far = 10 ** 39
        self.assertEqual(value((far, far), [far]), far + far * far)
        self.assertEqual(scaled(far, (far, 1)), (far * far, far))
        self.assertEqual(added((far * far, 1), (1, far)), (far * far + 1, far + 1))
        self.assertIs(below((far, far), (far, far)), True)
        self.assertIs(below((far + 1, far), (far, far + 1)), False)

    def test_whether_a_value_is_a_form(self):
        for many in range(4):
            answered_false(self, lambda given: is_plain_form(given, many), lambda given: is_form(many, given))
        for given in [(0, True), (True, 0), (0, -1), (0, None), [0, 1], (0, (1,)), ((0, 1),), "01", (0, "1")]:
            self.assertIs(is_form(1, given), False)

    def test_results_are_true_or_false(self):
        self.assertIs(below((0, 0), (0, 0)), True)
        self.assertIs(is_form(1, (5, 5)), True)

    def test_by_names(self):
        self.assertEqual([is_form(many=0, value=(1,)), value(form=(1, 2), point=[3]), added(one=(1,), other=(2,))], [True, 7, (3,)])
        self.assertEqual([scaled(number=2, form=(1,)), below(one=(1,), other=(2,)), inserted(form=(0, 2), many=0, forms=[(4,)])],
                         [(2,), True, (8,)])

    def test_arguments_stay(self):
        point, forms = [3, 4], [(5, 1), (0, 4)]
        value((1, 2, 3), point)
        inserted((1, 2, 3), 1, forms)
        self.assertEqual((point, forms), ([3, 4], [(5, 1), (0, 4)]))


class WrongInputsTest(unittest.TestCase):
    def test_numbers_of_unknowns(self):
        refused(self, "InvalidNumber", lambda given: is_number(given, 0, 3), lambda given: is_form(given, (0,)))
        refused(self, "InvalidNumber", lambda given: is_number(given, 0, 3), lambda given: inserted((0,), given, []))
        told(self, "InvalidNumber", 4, is_form, 4, (0, 0, 0, 0, 0))
        told(self, "InvalidNumber", -1, is_form, -1, ())

    def test_forms(self):
        refused(self, "InvalidForm", is_any_form, lambda given: value(given, []))
        refused(self, "InvalidForm", is_any_form, lambda given: scaled(1, given))
        refused(self, "InvalidForm", is_any_form, lambda given: inserted(given, 1, []))
        for call in [added, below]:
            refused(self, "InvalidForm", is_any_form, lambda given: call(given, (0, 1)))
            refused(self, "InvalidForm", is_any_form, lambda given: call((0, 1), given))
            for other in [(1,), (1, 2, 3), (1, 2, 3, 4)]:
                told(self, "Unlike", other, call, (0, 1), other)
            told(self, "InvalidForm", (1, 2, 3, 4, 5), call, (1, 2), (1, 2, 3, 4, 5))

    def test_points(self):
        for many in range(4):
            form = (1,) * (many + 1)
            refused(self, "InvalidPoint", lambda given: is_point(given, many), lambda given: value(form, given))
        for given in [(3,), [True], [-1], [None], ["1"], [1, 2], [], [[1]], "1"]:
            told(self, "InvalidPoint", given, value, (0, 1), given)

    def test_counts(self):
        refused(self, "InvalidNumber", lambda given: is_number(given, 0, 10 ** 99), lambda given: scaled(given, (1, 2)))

    def test_lists_of_forms(self):
        for given in strange_values():
            if not (isinstance(given, list) and len(given) == 1 and is_plain_form(given[0], 1)):
                told(self, "InvalidList", given, inserted, (0, 1), 1, given)
        for given in [[(1,)], [(1, 2, 3)], [(1, 2), (1, 2)], ((1, 2),), [[1, 2]], [(1, True)], [(1, -1)], []]:
            told(self, "InvalidList", given, inserted, (0, 1), 1, given)
        given = [(1, 2)]
        told(self, "InvalidList", given, inserted, (3,), 1, given)

    def test_the_first_wrong_argument_is_told(self):
        told(self, "InvalidForm", (), value, (), None)
        told(self, "InvalidForm", None, added, None, "x")
        told(self, "InvalidForm", "x", below, (1,), "x")
        told(self, "InvalidNumber", -1, scaled, -1, None)
        told(self, "InvalidForm", None, inserted, None, 9, None)
        told(self, "InvalidNumber", 9, inserted, (1, 2), 9, None)
        told(self, "InvalidNumber", 4, is_form, 4, None)


if __name__ == "__main__":
    unittest.main()
