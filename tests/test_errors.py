"""perfectorders/errors.py, and [0.4]."""

import inspect
import unittest

from perfectorders import errors
from tests.by_hand import Case

BENEATH_FORM = {
    "BadNumber": ("name",), "BadWeb": ("x", "y"), "BadThing": ("thing",), "BadPart": ("place",),
    "BadOrder": ("place",), "BadNeeds": ("place",), "BadBooking": ("thing",), "BadNotes": ("thing",),
    "BadRules": ("place",), "BadText": ("bad_line",), "BadDeed": ("name",),
}
BENEATH_NEED = {
    "NotKnot": ("x", "y"), "NotLot": ("x", "y"), "NotRight": ("row",), "NotTwofold": ("row",),
    "NotSettled": ("thing", "room"), "NoPlace": ("floor_row", "roof_row"), "NoOrder": (), "NoneSuch": ("name",),
}


class Errors(Case):
    def test_bases(self):
        self.assertEqual(errors.OrdersError.__bases__, (Exception,))
        self.assertEqual(errors.BadForm.__bases__, (errors.OrdersError,))
        self.assertEqual(errors.UnmetNeed.__bases__, (errors.OrdersError,))
        self.assertEqual(errors.TooMany.__bases__, (errors.OrdersError,))
        for name in BENEATH_FORM:
            self.assertEqual(getattr(errors, name).__bases__, (errors.BadForm,), name)
        for name in BENEATH_NEED:
            self.assertEqual(getattr(errors, name).__bases__, (errors.UnmetNeed,), name)

    def test_there_are_no_others(self):
        told = {name for name, value in vars(errors).items() if inspect.isclass(value)}
        self.assertEqual(told, {"OrdersError", "BadForm", "UnmetNeed", "TooMany", *BENEATH_FORM, *BENEATH_NEED})

    def test_attributes_are_the_arguments(self):
        for name, attributes in {**BENEATH_FORM, **BENEATH_NEED, "TooMany": ("limit",)}.items():
            values = [("value", number) for number in range(len(attributes))]
            error = getattr(errors, name)(*values)
            self.assertEqual([getattr(error, attribute) for attribute in attributes], values, name)
            self.assertEqual(len(vars(error)), len(attributes), name)
            with self.assertRaises(errors.OrdersError):
                raise error

    def test_number_of_arguments(self):
        for name, attributes in {**BENEATH_FORM, **BENEATH_NEED, "TooMany": ("limit",)}.items():
            if attributes:
                with self.assertRaises(TypeError):
                    getattr(errors, name)()

    def test_bad_web_may_have_none(self):
        error = errors.BadWeb(None, None)
        self.assertIsNone(error.x)
        self.assertIsNone(error.y)


if __name__ == "__main__":
    unittest.main()
