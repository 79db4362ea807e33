"""[0.9] and [0.10]: the classes of errors."""

import unittest

from hindcost import errors

WITH_MESSAGE = (
    "InvalidSystem", "InvalidSteps", "InvalidSequence", "InvalidSchedule", "InvalidWork", "InvalidPolicy",
    "InvalidOffline", "InvalidPosition", "InvalidInstance", "InvalidOperation", "PendingRequests", "InvalidCommand",
    "ParseError",
)
WITH_VALUE = {
    "UnknownState": (IndexError, "state"),
    "UnknownRequest": (LookupError, "request"),
    "InvalidNumber": (KeyError, "value"),
    "TooLarge": (OverflowError, "limit"),
    "BelowRatio": (ArithmeticError, "ratio"),
    "NothingToUndo": (RuntimeError, "count"),
}


class TestErrors(unittest.TestCase):
    def test_base_of_errors_with_message(self):
        self.assertEqual(errors.HindcostError.__bases__, (ValueError,))
        self.assertEqual(str(errors.HindcostError("no such value")), "no such value")

    def test_errors_with_message_are_derived_directly(self):
        for name in WITH_MESSAGE:
            with self.subTest(name=name):
                error = getattr(errors, name)
                self.assertEqual(error.__bases__, (errors.HindcostError,))
                self.assertEqual(error.__name__, name)
                self.assertEqual(str(error("what is wrong")), "what is wrong")

    def test_errors_with_value_are_derived_directly(self):
        for name, (base, _) in WITH_VALUE.items():
            with self.subTest(name=name):
                self.assertEqual(getattr(errors, name).__bases__, (base,))
                self.assertEqual(getattr(errors, name).__name__, name)

    def test_errors_with_value_keep_it(self):
        kept = (0, -1, True, None, "0", (1, 2), [3], {4: 5}, 10**49, ((((((((((),),),),),),),),),))
        for name, (_, attribute) in WITH_VALUE.items():
            for value in kept:
                with self.subTest(name=name, value=value):
                    error = getattr(errors, name)(value)
                    self.assertIs(getattr(error, attribute), value)
                    self.assertIsInstance(str(error), str)

    def test_no_two_errors_are_derived_from_one_another(self):
        names = WITH_MESSAGE + tuple(WITH_VALUE)
        for one in names:
            for other in names:
                if one != other:
                    self.assertFalse(issubclass(getattr(errors, one), getattr(errors, other)), (one, other))

    def test_errors_with_value_are_no_hindcost_errors(self):
        for name in WITH_VALUE:
            self.assertFalse(issubclass(getattr(errors, name), errors.HindcostError), name)

    def test_nothing_else_is_defined(self):
        defined = {name for name, value in vars(errors).items() if isinstance(value, type)}
        self.assertEqual(defined, {"HindcostError", *WITH_MESSAGE, *WITH_VALUE})


if __name__ == "__main__":
    unittest.main()
