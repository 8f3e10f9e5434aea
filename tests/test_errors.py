"""Point 12, and what point 3 says of errors."""

import copy
import inspect

from idealtwin import errors
from tests.helpers import TwinTest

PLAIN = [
    "InvalidSize", "InvalidPort", "InvalidSlot", "InvalidSpeeds", "InvalidSide", "InvalidRule", "InvalidPicks",
    "InvalidNumber", "InvalidCommand", "NotBusy", "NotPressed", "Impossible", "NothingToUndo",
]
FIELDS = {
    "InvalidCells": "index", "InvalidRow": "index", "InvalidCrossings": "index", "InvalidRhythm": "index",
    "InvalidWaiting": "index", "InvalidFrame": "index", "InvalidArrivals": "index", "InvalidText": "word",
    "TooLarge": "limit",
}


class ErrorsTest(TwinTest):

    def test_all_are_defined_here(self):
        for name in ["TwinError", *PLAIN, *FIELDS]:
            with self.subTest(name):
                error = getattr(errors, name)
                self.assertTrue(inspect.isclass(error))
                self.assertEqual((error.__name__, error.__module__), (name, "idealtwin.errors"))

    def test_base_is_a_value_error(self):
        self.assertTrue(issubclass(errors.TwinError, ValueError))

    def test_each_is_a_direct_subclass(self):
        for name in [*PLAIN, *FIELDS]:
            with self.subTest(name):
                self.assertEqual(getattr(errors, name).__bases__, (errors.TwinError,))

    def test_plain_ones_take_one_string(self):
        for name in ["TwinError", *PLAIN]:
            with self.subTest(name):
                error = getattr(errors, name)
                made = error("what is wrong")
                self.assertIs(type(made), error)
                self.assertIn("what is wrong", str(made))
                with self.assertRaises(ValueError):
                    raise made

    def test_fields_are_kept_under_their_names(self):
        for name, field in FIELDS.items():
            for value in [None, 0, 1, 59, 60, 400]:
                with self.subTest(name, value=value):
                    error = getattr(errors, name)
                    by_position = error(value)
                    by_name = error(**{field: value})
                    self.assertIs(getattr(by_position, field), value)
                    self.assertIs(getattr(by_name, field), value)
                    self.assertIsInstance(str(by_position), str)
                    for made in (copy.deepcopy(by_position), copy.deepcopy(by_name)):
                        self.assertEqual((getattr(made, field), str(made)), (value, str(by_position)))

    def test_fields_differ_between_objects(self):
        first, second = errors.InvalidRow(1), errors.InvalidRow(None)
        self.assertEqual((first.index, second.index), (1, None))

    def test_with_a_field_it_can_be_caught(self):
        for name, field in FIELDS.items():
            with self.subTest(name):
                with self.assertRaises(errors.TwinError) as caught:
                    raise getattr(errors, name)(7)
                self.assertEqual(getattr(caught.exception, field), 7)
