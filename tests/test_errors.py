"""ignorelines/errors.py."""

from unittest import TestCase

from ignorelines import errors

DIRECT = [
    "InvalidRule", "InvalidList", "InvalidSet", "InvalidPath", "InvalidIndex", "TooLarge", "Changes",
    "NothingDone", "ParseError", "DecodeError",
]


class TestErrors(TestCase):
    def test_base_classes(self):
        self.assertEqual(errors.LineError.__bases__, (ValueError,))
        for name in DIRECT:
            self.assertEqual(getattr(errors, name).__bases__, (errors.LineError,), name)

    def test_there_are_no_other_errors(self):
        found = [
            name for name, value in vars(errors).items() if isinstance(value, type) and value is not errors.LineError
        ]
        self.assertEqual(sorted(found), sorted(DIRECT))

    def test_attributes(self):
        self.assertEqual(errors.Changes("a/b").path, "a/b")
        self.assertEqual(errors.ParseError(3).line, 3)
        self.assertEqual(errors.DecodeError(4).offset, 4)
        self.assertIsNone(errors.DecodeError(None).offset)

    def test_each_object_has_its_attribute(self):
        self.assertEqual(vars(errors.Changes()), {"path": None})
        self.assertEqual(vars(errors.ParseError()), {"line": None})
        self.assertEqual(vars(errors.DecodeError()), {"offset": None})

    def test_they_are_caught_as_value_errors(self):
        for name in DIRECT:
            with self.assertRaises(ValueError):
                raise getattr(errors, name)("why")
