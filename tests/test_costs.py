"""[46]: what writers cost."""

import unittest

from countscribe.costs import Prices, cost, vector
from countscribe.texts import OpenText
from helper import FAR, chances, is_number, refused, run_example, some_pieces, strange_values, told

EXAMPLE = """
from countscribe.costs import Prices, cost, vector
pieces = [("ab", (1, 2)), ("a", (3, 0)), ("c", (1, 0)), ("", (0, 0))]
[vector(1, pieces), cost(1, pieces), cost(1, pieces, Prices(sign=10, number=0)), Prices(letter=7).of((1, 2, 3, 4)), Prices().letter]
# [(4, 3, 1, 2), 10, 35, 16, 1]
"""
NAMES = ["letter", "sign", "unknown", "number"]


def plain_vector(many, pieces):
    """The vector of a writer as [46] has it."""
    single = (1,) + (0,) * many
    others = [form for _, form in pieces if form != single]
    zeros = [number for _, form in pieces for number in form[1:] if number != 0]
    return sum([len(word) for word, _ in pieces]), len(others), len(zeros), len([form for form in others if form[0] != 0])


class ExampleTest(unittest.TestCase):
    def test_example(self):
        run_example(self, EXAMPLE)


class VectorTest(unittest.TestCase):
    def test_against_the_definition(self):
        chance = chances(150)
        for _ in range(500):
            many = chance.randint(0, 3)
            pieces = some_pieces(chance, many, 6)
            found = plain_vector(many, pieces)
            self.assertEqual(vector(many, pieces), found)
            self.assertIsInstance(vector(many, pieces), tuple)
            numbers = [chance.randint(1, 9)] + [chance.randint(0, 9) for _ in range(3)]
            prices = Prices(**dict(zip(NAMES, numbers)))
            total = sum([one * other for one, other in zip(found, numbers)])
            self.assertEqual((prices.of(found), cost(many, pieces, prices), cost(many, pieces)), (total, total, sum(found)))

    def test_edges(self):
        self.assertEqual([vector(0, []), cost(3, []), vector(0, [("", (1,)), ("", (0,)), ("ab", (0,)), ("ab", (2,)), ("a", (1,))])],
                         [(0, 0, 0, 0), 0, (5, 3, 0, 1)])
        self.assertEqual(vector(3, [("a", (0, 1, 0, FAR)), ("b", (1, 0, 0, 5)), ("c", (1, 0, 0, 0))]), (3, 2, 3, 1))
        self.assertEqual(vector(1, [("a", (2000, 0))]), (1, 1, 0, 1))
        self.assertEqual(vector(1, [("a", (1, 0))] * 2000), (2000, 0, 0, 0))


class PricesTest(unittest.TestCase):
    def test_each_argument_left_out(self):
        for name in NAMES:
            prices = Prices(**{name: 7})
            self.assertEqual([getattr(prices, other) for other in NAMES], [7 if other == name else 1 for other in NAMES])
            given = {other: 5 for other in NAMES if other != name}
            prices = Prices(**given)
            self.assertEqual([getattr(prices, other) for other in NAMES], [1 if other == name else 5 for other in NAMES])
        self.assertEqual(sorted(vars(Prices())), sorted(NAMES))
        self.assertEqual([getattr(Prices(letter=1, sign=0, unknown=0, number=0), name) for name in NAMES], [1, 0, 0, 0])

    def test_by_keyword_only(self):
        with self.assertRaises(TypeError):
            Prices(1)

    def test_great_numbers(self):
        far = 10 ** 28
        prices = Prices(letter=far, sign=far + 1, unknown=far + 2, number=far + 3)
        self.assertEqual(prices.of((1, 2, 3, 4)), 10 * far + 20)
        self.assertEqual(prices.of((far, 0, 0, far)), far * (2 * far + 3))
        self.assertEqual(cost(1, [("ab", (1, far))], prices), 2 * far + 3 * far + 6)

    def test_asked_of_one_thing_after_another(self):
        prices = Prices(sign=3)
        self.assertEqual([prices.of((1, 1, 1, 1)), prices.of((0, 0, 0, 0)), prices.of((1, 1, 1, 1)), cost(0, [("a", (2,))], prices)], [6, 0, 6, 5])
        self.assertEqual([prices.letter, prices.sign, prices.unknown, prices.number], [1, 3, 1, 1])

    def test_wrong_inputs(self):
        for name in NAMES:
            least = 1 if name == "letter" else 0
            refused(self, "InvalidNumber", lambda value: is_number(value, least, 10 ** 99), lambda value: Prices(**{name: value}))
            told(self, "InvalidNumber", least - 1, lambda value: Prices(**{name: value}), least - 1)
            self.assertEqual(getattr(Prices(**{name: least}), name), least)
        wrong = [["w"], ["x"], ["y"], ["z"]]
        for at in range(4):
            given = dict(list(zip(NAMES, wrong))[at:])
            told(self, "InvalidNumber", wrong[at], lambda: Prices(**given))
            given = dict(reversed(list(given.items())))
            told(self, "InvalidNumber", wrong[at], lambda: Prices(**given))


class WrongInputsTest(unittest.TestCase):
    def test_vectors(self):
        prices = Prices()
        refused(self, "InvalidVector", lambda value: isinstance(value, tuple) and len(value) == 4 and all([is_number(item, 0, 10 ** 99) for item in value]),
                prices.of)
        for value in [[1, 1, 1, 1], (1, 1, 1), (1, 1, 1, 1, 1), (1, 1, 1, -1), (1, True, 1, 1), (1, 1, None, 1), ("1", 1, 1, 1)]:
            told(self, "InvalidVector", value, prices.of, value)

    def test_pieces(self):
        for call in [vector, cost, lambda many, pieces: cost(many, pieces, "x")]:
            refused(self, "InvalidNumber", lambda value: is_number(value, 0, 3), lambda value: call(value, None))
            refused(self, "InvalidPieces", lambda value: isinstance(value, list), lambda value: call(1, value))
            pieces = [("a", (0, 1))] * 5001
            told(self, "InvalidPieces", pieces, call, 1, pieces)
            for item in strange_values():
                if item not in [("a", (0, 1)), ("", (0, 0))]:
                    told(self, "InvalidPiece", item, call, 1, [("a", (0, 1)), item, None])
            told(self, "TooLong", 2001, call, 1, [("a", (2000, 1))])
            told(self, "InvalidNumber", 4, call, 4, None)

    def test_prices(self):
        refused(self, "InvalidPrices", lambda value: value is None or isinstance(value, Prices), lambda value: cost(1, [], value))
        self.assertEqual(cost(1, [("a", (2, 1))], None), 4)

    def test_by_names_and_lists_stay(self):
        pieces = [("ab", (1, 1)), ("", (0, 0))]
        self.assertEqual([vector(many=1, pieces=pieces), cost(many=1, pieces=pieces, prices=Prices(letter=2)), Prices().of(vector=(1, 0, 0, 0))],
                         [(2, 2, 1, 1), 8, 1])
        self.assertEqual(pieces, [("ab", (1, 1)), ("", (0, 0))])
        self.assertIs(OpenText(1, pieces) == Prices(), False)


if __name__ == "__main__":
    unittest.main()
