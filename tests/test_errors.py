import unittest

from surelyends import errors

WITH_MESSAGE = (
    "InvalidFraction", "InvalidRows", "InvalidProgram", "InvalidValues", "InvalidOperation", "InvalidEdit",
    "ParseError", "InvalidCommand",
)
WITH_VALUE = (
    ("InvalidNumber", IndexError, "value"), ("UnknownName", KeyError, "name"), ("TooMany", OverflowError, "limit"),
    ("NothingToUndo", LookupError, "many"),
)


class ErrorsTest(unittest.TestCase):
    def own_bases(self, error_class):
        return [base for base in error_class.__mro__[1:] if base.__module__ == "surelyends.errors"]

    def test_end_error(self):
        self.assertEqual(errors.EndError.__bases__, (ValueError,))
        self.assertIsInstance(errors.EndError("message"), ValueError)

    def test_errors_with_a_message(self):
        for name in WITH_MESSAGE:
            error_class = getattr(errors, name)
            self.assertEqual(error_class.__bases__, (errors.EndError,))
            self.assertEqual(self.own_bases(error_class), [errors.EndError])
            with self.assertRaises(error_class):
                raise error_class("message")

    def test_errors_with_a_value(self):
        for name, base, attribute in WITH_VALUE:
            error_class = getattr(errors, name)
            self.assertEqual(error_class.__bases__, (base,))
            self.assertEqual(self.own_bases(error_class), [])
            self.assertFalse(issubclass(error_class, ValueError))
            for value in (None, 5, "x", (1, [2]), 10 ** 5000):
                error = error_class(value)
                self.assertIs(getattr(error, attribute), value)
                self.assertIsInstance(str(error), str)

    def test_there_are_no_other_classes(self):
        found = {name for name, value in vars(errors).items() if isinstance(value, type)}
        self.assertEqual(found, {"EndError", *WITH_MESSAGE, *(name for name, _, _ in WITH_VALUE)})


if __name__ == "__main__":
    unittest.main()
