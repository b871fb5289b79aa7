"""The error classes of the interface."""

import copy
import unittest

from poolmarks import errors
from samples import any_values

MARKS_ERRORS = {
    "ZeroDenominator": (),
    "InvalidPanel": ("path", "reason"),
    "Full": (),
    "LastItem": (),
    "NotFalling": ("index",),
    "OutOfRange": (),
    "TooManyActions": (),
    "Busy": (),
    "NothingToUndo": (),
    "InvalidBatch": (),
    "BatchFailed": ("index",),
    "InvalidMark": ("mark",),
    "InvalidWeight": ("weight",),
    "ParseError": ("place",),
}
LOOKUP_ERRORS = {
    "NoSuchItem": ("item",),
    "NoSuchRule": ("rule",),
    "NoSuchStep": ("step",),
}
FIELDS = {**MARKS_ERRORS, **LOOKUP_ERRORS}


def class_of(name):
    return getattr(errors, name)


class TestBases(unittest.TestCase):
    def test_marks_error_has_only_value_error_as_base(self):
        self.assertEqual(errors.MarksError.__bases__, (ValueError,))

    def test_marks_errors_have_only_marks_error_as_base(self):
        for name in MARKS_ERRORS:
            with self.subTest(name=name):
                self.assertEqual(class_of(name).__bases__, (errors.MarksError,))

    def test_lookup_errors_have_only_lookup_error_as_base(self):
        for name in LOOKUP_ERRORS:
            with self.subTest(name=name):
                self.assertEqual(class_of(name).__bases__, (LookupError,))
                self.assertFalse(issubclass(class_of(name), ValueError))

    def test_no_class_is_a_base_of_another_one(self):
        for one in FIELDS:
            for other in FIELDS:
                with self.subTest(one=one, other=other):
                    self.assertEqual(issubclass(class_of(one), class_of(other)), one == other)

    def test_the_module_defines_exactly_these_classes(self):
        found = {name: value for name, value in vars(errors).items() if isinstance(value, type)}
        self.assertEqual(set(found), set(FIELDS) | {"MarksError"})
        for name, value in found.items():
            with self.subTest(name=name):
                self.assertEqual(value.__name__, name)
                self.assertEqual(value.__module__, "poolmarks.errors")


class TestFields(unittest.TestCase):
    def check_fields(self, name, values):
        before = copy.deepcopy(values)
        error = class_of(name)(*values)
        for field, value in zip(FIELDS[name], values):
            self.assertIs(getattr(error, field), value)
        self.assertEqual(values, before)
        self.assertEqual(set(vars(error)), set(FIELDS[name]))

    def test_one_field_holds_any_value(self):
        for name in [name for name in FIELDS if len(FIELDS[name]) == 1]:
            for value in any_values():
                with self.subTest(name=name, value=value):
                    self.check_fields(name, (value,))

    def test_two_fields_hold_any_values_in_their_order(self):
        for value in any_values():
            with self.subTest(value=value):
                self.check_fields("InvalidPanel", (value, "mark"))
                self.check_fields("InvalidPanel", ((0, 1, 1), value))

    def test_a_path_and_a_reason(self):
        error = errors.InvalidPanel((0, 0, 1), "weight")
        self.assertEqual((error.path, error.reason), ((0, 0, 1), "weight"))

    def test_errors_without_fields_are_constructed_from_nothing(self):
        for name in [name for name in FIELDS if not FIELDS[name]]:
            with self.subTest(name=name):
                self.check_fields(name, ())

    def test_a_field_must_be_passed(self):
        for name in [name for name in FIELDS if FIELDS[name]]:
            many = len(FIELDS[name])
            for wrong in (many - 1, many + 1):
                with self.subTest(name=name, wrong=wrong):
                    with self.assertRaises(TypeError):
                        class_of(name)(*range(wrong))

    def test_two_errors_do_not_share_their_fields(self):
        one = errors.ParseError(3)
        other = errors.ParseError(None)
        self.assertEqual(one.place, 3)
        self.assertIsNone(other.place)

    def test_a_raised_error_is_caught_by_its_base_with_its_fields(self):
        for name, fields in FIELDS.items():
            base = errors.MarksError if name in MARKS_ERRORS else LookupError
            values = tuple(range(len(fields)))
            with self.subTest(name=name):
                with self.assertRaises(base) as caught:
                    raise class_of(name)(*values)
                self.assertIs(type(caught.exception), class_of(name))
                self.assertEqual(tuple(getattr(caught.exception, field) for field in fields), values)

    def test_each_error_can_be_shown(self):
        for name, fields in FIELDS.items():
            for value in any_values():
                with self.subTest(name=name, value=value):
                    error = class_of(name)(*[value for field in fields])
                    self.assertIsInstance(str(error), str)
                    self.assertIn(name, repr(error))


if __name__ == "__main__":
    unittest.main()
