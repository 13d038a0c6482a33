"""The classes of sendstead.errors."""

import unittest

from sendstead import errors

PLAIN = (
    "NoKind", "NoMethod", "NoField", "NoWord", "Ring", "Clash", "Many", "Used", "Busy", "Idle",
    "Count", "Full", "NoFrame", "NoName", "Worn", "NoDeed", "NoImage",
)


class ErrorsTest(unittest.TestCase):
    def test_stead_error_is_a_value_error(self):
        self.assertEqual(errors.SteadError.__bases__, (ValueError,))

    def test_each_class_stands_right_under_stead_error(self):
        for name in PLAIN + ("Fault", "Undone"):
            self.assertEqual(getattr(errors, name).__bases__, (errors.SteadError,), name)

    def test_each_class_is_defined_in_errors(self):
        for name in PLAIN + ("Fault", "Undone", "SteadError"):
            self.assertEqual(getattr(errors, name).__module__, "sendstead.errors")
            self.assertEqual(getattr(errors, name).__name__, name)

    def test_there_are_no_other_classes(self):
        found = {name for name, value in vars(errors).items() if isinstance(value, type)}
        self.assertEqual(found, set(PLAIN) | {"Fault", "Undone", "SteadError"})

    def test_plain_ones_have_a_message(self):
        for name in PLAIN + ("SteadError",):
            self.assertEqual(str(getattr(errors, name)("why so")), "why so")
            self.assertTrue(str(getattr(errors, name)()))

    def test_fault_has_its_fields_and_a_message(self):
        fault = errors.Fault("main", 3, 14, "deep")
        self.assertEqual((fault.page, fault.row, fault.column, fault.why), ("main", 3, 14, "deep"))
        for part in ("main", "3", "14", "deep"):
            self.assertIn(part, str(fault))

    def test_undone_has_its_field_and_a_message(self):
        try:
            raise errors.Undone(7) from errors.Idle("not paused")
        except errors.SteadError as undone:
            self.assertEqual(undone.at, 7)
            self.assertIn("7", str(undone))
            self.assertIsInstance(undone.__cause__, errors.Idle)


if __name__ == "__main__":
    unittest.main()
