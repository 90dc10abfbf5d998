"""[2] and the interface's part "flowkinds/errors.py"."""

import inspect
import unittest

from flowkinds import errors

REFUSALS = {
    "BadText": (),
    "Twice": ("word",),
    "NoName": ("word", "place"),
    "TooHeavy": ("word",),
    "BadPaper": (),
    "WrongKind": ("made", "used", "slot"),
    "OutOfTurns": (),
    "RowFull": (),
}


class ErrorsTest(unittest.TestCase):
    def test_the_base_stands_under_value_error(self):
        self.assertEqual(errors.FlowError.__bases__, (ValueError,))

    def test_each_refusal_stands_straight_under_the_base(self):
        for name in REFUSALS:
            with self.subTest(name):
                self.assertEqual(getattr(errors, name).__bases__, (errors.FlowError,))

    def test_there_are_no_other_refusals(self):
        classes = [name for name, one in vars(errors).items() if inspect.isclass(one)]
        self.assertEqual(sorted(classes), sorted(list(REFUSALS) + ["FlowError"]))

    def test_each_refusal_has_its_fields(self):
        for name, fields in REFUSALS.items():
            with self.subTest(name):
                values = [f"value {number}" for number in range(len(fields))]
                error = getattr(errors, name)(*values)
                self.assertEqual([getattr(error, field) for field in fields], values)

    def test_a_refusal_is_taken_by_the_base(self):
        for name, fields in REFUSALS.items():
            with self.subTest(name), self.assertRaises(errors.FlowError):
                raise getattr(errors, name)(*fields)


if __name__ == "__main__":
    unittest.main()
