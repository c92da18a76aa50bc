"""Point 4 and the interface: the error classes."""

import unittest

from snapdigits import errors

from samples import Stubborn, deep_list

FIELDS = {
    "InvalidScheme": ("part",),
    "InvalidNumber": ("number",),
    "InvalidTime": ("time",),
    "InvalidArchive": ("part", "at"),
    "InvalidBound": ("part",),
    "LimitExceeded": ("limit",),
}


class ErrorClasses(unittest.TestCase):

    def test_snap_error_is_an_arithmetic_error(self):
        self.assertTrue(issubclass(errors.SnapError, ArithmeticError))

    def test_each_is_a_direct_subclass_of_snap_error_only(self):
        for name in FIELDS:
            with self.subTest(name):
                self.assertEqual(getattr(errors, name).__bases__, (errors.SnapError,))

    def test_none_is_a_subclass_of_another(self):
        for name in FIELDS:
            for other in FIELDS:
                related = issubclass(getattr(errors, name), getattr(errors, other))
                self.assertEqual(related, name == other, (name, other))

    def test_each_can_be_raised_and_caught_by_all_its_names(self):
        for name, fields in FIELDS.items():
            for caught in (getattr(errors, name), errors.SnapError, ArithmeticError):
                with self.subTest(name), self.assertRaises(caught):
                    raise getattr(errors, name)(*fields)


class Fields(unittest.TestCase):

    def assert_fields(self, error, fields, values):
        for field, value in zip(fields, values):
            self.assertIs(getattr(error, field), value)
        self.assertEqual(sorted(vars(error)), sorted(fields))

    def test_by_position_and_by_name(self):
        for name, fields in FIELDS.items():
            values = ["first", -1][:len(fields)]
            made = getattr(errors, name)
            with self.subTest(name):
                self.assert_fields(made(*values), fields, values)
                self.assert_fields(made(**dict(zip(fields, values))), fields, values)

    def test_archive_by_position_and_name_and_in_other_order(self):
        self.assert_fields(errors.InvalidArchive("full", at=3), ("part", "at"), ("full", 3))
        self.assert_fields(errors.InvalidArchive(at=3, part="full"), ("part", "at"), ("full", 3))

    def test_a_field_may_be_any_object(self):
        for value in (None, [], {}, Stubborn(), deep_list(2000), -10 ** 5000):
            for name in ("InvalidNumber", "InvalidTime"):
                error = getattr(errors, name)(value)
                self.assert_fields(error, FIELDS[name], (value,))

    def test_fields_must_be_passed(self):
        for name, fields in FIELDS.items():
            made = getattr(errors, name)
            with self.subTest(name):
                self.assertRaises(TypeError, made)
                self.assertRaises(TypeError, made, *fields, "one more")


if __name__ == "__main__":
    unittest.main()
