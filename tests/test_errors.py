"""The classes of the errors, and their fields."""

import unittest

from tidewaits import errors
from tidewaits.errors import BadEntry, BadNumber, BadShip, BadSize, BadText, Clash, NoPlan, TideError

WITHOUT_ARGUMENT = ["BadSize", "BadNumber", "BadHour", "NotSo", "NoWay", "NothingToUndo", "NothingToRedo"]
WITH_ARGUMENTS = {
    "BadShip": (2,),
    "BadText": (3, 8),
    "NoPlan": ("tugs", 5),
    "Clash": ([0, 2],),
    "BadEntry": (4,),
}


class ErrorsTest(unittest.TestCase):
    def test_the_base_class_stands_under_value_error(self):
        self.assertEqual(TideError.__bases__, (ValueError,))

    def test_every_other_class_stands_directly_under_the_base_class(self):
        for name in WITHOUT_ARGUMENT + list(WITH_ARGUMENTS):
            with self.subTest(name):
                self.assertEqual(getattr(errors, name).__bases__, (TideError,))

    def test_errors_without_argument_can_be_raised_and_caught(self):
        for name in WITHOUT_ARGUMENT:
            made = getattr(errors, name)
            for caught in (made, TideError, ValueError):
                with self.subTest(name), self.assertRaises(caught):
                    raise made()

    def test_errors_with_arguments_can_be_raised_and_caught(self):
        for name, arguments in WITH_ARGUMENTS.items():
            made = getattr(errors, name)
            for caught in (made, TideError, ValueError):
                with self.subTest(name), self.assertRaises(caught):
                    raise made(*arguments)

    def test_fields(self):
        self.assertEqual(BadShip(2).ship, 2)
        text = BadText(3, 8)
        self.assertEqual((text.line, text.column), (3, 8))
        plan = NoPlan("tugs", 5)
        self.assertEqual((plan.word, plan.number), ("tugs", 5))
        self.assertEqual(Clash([0, 2]).ships, [0, 2])
        self.assertEqual(Clash([]).ships, [])
        self.assertEqual(BadEntry(4).at, 4)

    def test_each_object_has_fields_of_its_own(self):
        first, second = BadShip(0), BadShip(1)
        self.assertEqual((first.ship, second.ship), (0, 1))
        one, other = BadText(1, 2), BadText(3, 4)
        self.assertEqual((one.line, one.column, other.line, other.column), (1, 2, 3, 4))

    def test_the_ship_of_an_error_can_be_any_value(self):
        for value in (None, True, "one", -1, 10 ** 30, [0]):
            with self.subTest(value):
                self.assertEqual(BadShip(value).ship, value)

    def test_size_and_number_are_different_errors(self):
        self.assertFalse(issubclass(BadSize, BadNumber))
        self.assertFalse(issubclass(BadNumber, BadSize))


if __name__ == "__main__":
    unittest.main()
