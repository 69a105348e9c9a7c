"""The errors of the package: points 1 and the heading tryback/errors.py."""

import inspect
import unittest

from tryback import errors

ARGUMENTS = {
    "NoContext": ("function", "flags"),
    "NoWay": ("way", "how"),
    "NoCell": ("name",),
    "Unclean": ("function", "thing"),
    "OtherShape": (),
    "NoSpot": ("spot",),
    "TooMany": ("count",),
    "NoEntry": ("number",),
    "NoRow": ("name",),
    "BadCode": ("function", "number"),
    "BadText": ("line",),
    "BadPuzzle": (),
    "TooGreat": (),
    "NoSuch": ("name",),
    "Ended": (),
    "NothingToUndo": (),
}
WORTHS = [None, True, False, 0, -1, 10 ** 5000, "", "a" * 1000, "{}", b"x", (), ((0, 2), 1), [], {"a": []}, object(), int]


class Errors(unittest.TestCase):
    def test_the_module_defines_these_errors_and_no_others(self):
        defined = [name for name, thing in vars(errors).items() if inspect.isclass(thing)]
        self.assertEqual(sorted(defined), sorted([*ARGUMENTS, "TryError"]))
        for name in defined:
            self.assertEqual(getattr(errors, name).__module__, "tryback.errors")

    def test_bases(self):
        self.assertEqual(errors.TryError.__bases__, (ValueError,))
        for name in ARGUMENTS:
            self.assertEqual(getattr(errors, name).__bases__, (errors.TryError,), name)

    def test_no_error_is_of_another_class_of_the_module(self):
        for name, arguments in ARGUMENTS.items():
            made = getattr(errors, name)(*arguments)
            self.assertIsInstance(made, errors.TryError)
            for other in ARGUMENTS:
                self.assertEqual(isinstance(made, getattr(errors, other)), other == name)

    def test_each_argument_is_an_attribute(self):
        for name, arguments in ARGUMENTS.items():
            for worth in WORTHS:
                given = [(worth, argument) for argument in arguments]
                made = getattr(errors, name)(*given)
                for argument, told in zip(arguments, given):
                    self.assertIs(getattr(made, argument), told)
                plain = getattr(errors, name)(*[worth for _ in arguments])
                for argument in arguments:
                    self.assertIs(getattr(plain, argument), worth)

    def test_arguments_by_keyword(self):
        for name, arguments in ARGUMENTS.items():
            made = getattr(errors, name)(**{argument: argument.upper() for argument in arguments})
            for argument in arguments:
                self.assertEqual(getattr(made, argument), argument.upper())

    def test_wrong_numbers_of_arguments(self):
        for name, arguments in ARGUMENTS.items():
            if arguments:
                with self.assertRaises(TypeError):
                    getattr(errors, name)(*arguments[1:])
                with self.assertRaises(TypeError):
                    getattr(errors, name)(*arguments, 1)

    def test_they_are_raised_and_caught_by_name(self):
        for name, arguments in ARGUMENTS.items():
            for caught in (getattr(errors, name), errors.TryError, ValueError):
                with self.assertRaises(caught):
                    raise getattr(errors, name)(*arguments)


if __name__ == "__main__":
    unittest.main()
