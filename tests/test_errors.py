"""[5]: the classes of the errors, their fields and defaults."""

import inspect
import unittest

from countscribe import errors

WITH_VALUE = [
    "InvalidNumber", "InvalidWord", "InvalidForm", "InvalidPoint", "InvalidPieces", "InvalidList", "InvalidImages",
    "InvalidLines", "InvalidBits", "InvalidRun", "InvalidWheel", "InvalidGrowth", "InvalidVector", "InvalidPlaces",
    "InvalidExamples", "InvalidSide", "InvalidFlag", "InvalidSplices", "InvalidText", "InvalidKept", "InvalidLine",
    "InvalidPrices", "InvalidPatch", "InvalidPiece", "InvalidSplice", "Unlike", "TooLong", "TooMany", "NotOpen",
]
WITH_TWO = ["NotInOrder", "Clash"]
WITH_NONE = ["NothingToUndo", "NothingToRedo"]
ALL = WITH_VALUE + WITH_TWO + ["NoMark"] + WITH_NONE


class ErrorsTest(unittest.TestCase):
    def test_there_are_just_these_classes(self):
        found = [name for name, _ in inspect.getmembers(errors, inspect.isclass)]
        self.assertEqual(sorted(found), sorted(ALL + ["CountError"]))
        for name in found:
            self.assertEqual(getattr(errors, name).__module__, "countscribe.errors")

    def test_each_is_derived_directly(self):
        self.assertEqual(errors.CountError.__bases__, (ValueError,))
        for name in ALL:
            self.assertEqual(getattr(errors, name).__bases__, (errors.CountError,))

    def test_one_field(self):
        for name in WITH_VALUE:
            made = getattr(errors, name)
            given = [name]
            self.assertIs(made(given).value, given)
            self.assertIs(made(value=given).value, given)
            self.assertIsNone(made().value)
            self.assertEqual(list(inspect.signature(made).parameters), ["value"])
            self.assertEqual(vars(made(given)), {"value": given})

    def test_two_fields_in_their_order(self):
        for name in WITH_TWO:
            made = getattr(errors, name)
            error = made(1, "b")
            self.assertEqual((error.one, error.other), (1, "b"))
            error = made(other=2, one=3)
            self.assertEqual((error.one, error.other), (3, 2))
            self.assertEqual((made().one, made().other, made(5).other), (None, None, None))
            self.assertEqual(list(inspect.signature(made).parameters), ["one", "other"])

    def test_name_of_a_mark(self):
        self.assertEqual((errors.NoMark("x").name, errors.NoMark(name="y").name, errors.NoMark().name), ("x", "y", None))
        self.assertEqual(vars(errors.NoMark("x")), {"name": "x"})

    def test_no_field(self):
        for name in WITH_NONE:
            self.assertEqual(vars(getattr(errors, name)()), {})

    def test_they_are_caught_as_the_base_and_as_value_errors(self):
        for name in ALL:
            with self.assertRaises(errors.CountError):
                raise getattr(errors, name)()
            with self.assertRaises(ValueError):
                raise getattr(errors, name)()

    def test_fields_keep_great_numbers(self):
        error = errors.TooLong(10 ** 5000)
        self.assertEqual(error.value, 10 ** 5000)


if __name__ == "__main__":
    unittest.main()
