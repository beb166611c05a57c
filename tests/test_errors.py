"""The error classes of the interface, "twonests/errors.py"."""

import unittest

from twonests import errors

KINDS = ["NoNests", "NoName", "NoValue", "NoNest", "NoHome", "Taken", "Twice", "NoRoom", "Unknown", "NoNote"]


class ErrorsTest(unittest.TestCase):
    def test_nest_error_stands_directly_under_value_error(self):
        self.assertEqual(errors.NestError.__bases__, (ValueError,))
        self.assertEqual(errors.NestError.__name__, "NestError")

    def test_each_class_exists_in_its_file(self):
        for kind in ["NestError"] + KINDS:
            with self.subTest(kind=kind):
                told = getattr(errors, kind)
                self.assertEqual(told.__name__, kind)
                self.assertEqual(told.__module__, "twonests.errors")

    def test_each_class_stands_directly_under_nest_error(self):
        for kind in KINDS:
            with self.subTest(kind=kind):
                self.assertEqual(getattr(errors, kind).__bases__, (errors.NestError,))

    def test_no_class_is_under_another(self):
        for one in KINDS:
            for other in KINDS:
                with self.subTest(one=one, other=other):
                    under = issubclass(getattr(errors, one), getattr(errors, other))
                    self.assertEqual(under, one == other)

    def test_each_is_raised_with_a_message_and_caught_as_a_refusal(self):
        for kind in ["NestError"] + KINDS:
            for base in (errors.NestError, ValueError):
                with self.subTest(kind=kind, base=base):
                    with self.assertRaises(base) as caught:
                        raise getattr(errors, kind)("a message")
                    self.assertEqual(str(caught.exception), "a message")


if __name__ == "__main__":
    unittest.main()
