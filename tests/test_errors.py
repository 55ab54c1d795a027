"""The error classes of the interface, and point 2 of the document."""

import unittest

from takenahead import errors

ARGUMENTS = {
    "BadScript": ("place", "why"),
    "NoPlace": ("place",),
    "NoAnswer": ("answer",),
    "BadKind": ("why",),
    "BadSystem": ("why",),
    "NoKind": ("name",),
    "NoSession": ("session",),
    "BadStep": ("index",),
    "NoMeasure": ("measure",),
    "TooMany": ("limit",),
    "BadLeast": ("least",),
    "BadTimes": ("times",),
    "NoPolls": ("index",),
    "BadLag": ("lag",),
    "Endless": (),
    "BadMost": ("most",),
    "NoSettings": (),
    "BadText": ("line",),
}


class ErrorClasses(unittest.TestCase):
    def test_base(self):
        self.assertEqual(errors.TakeError.__bases__, (ValueError,))

    def test_direct_subclasses(self):
        for name in ARGUMENTS:
            with self.subTest(name):
                self.assertEqual(getattr(errors, name).__bases__, (errors.TakeError,))

    def test_defined_in_the_module(self):
        for name in ARGUMENTS:
            self.assertEqual(getattr(errors, name).__module__, "takenahead.errors")

    def test_arguments_are_attributes(self):
        for name, arguments in ARGUMENTS.items():
            values = [object() for argument in arguments]
            with self.subTest(name):
                for error in (
                    getattr(errors, name)(*values),
                    getattr(errors, name)(**dict(zip(arguments, values))),
                ):
                    for argument, value in zip(arguments, values):
                        self.assertIs(getattr(error, argument), value)

    def test_can_be_caught_as_base(self):
        for name, arguments in ARGUMENTS.items():
            with self.subTest(name), self.assertRaises(errors.TakeError):
                raise getattr(errors, name)(*arguments)

    def test_huge_argument(self):
        # Python refuses to write so long a number, so no error may try it.
        huge = 10 ** 6000
        self.assertEqual(errors.NoPlace((huge,)).place, (huge,))
        self.assertEqual(errors.BadLag(huge).lag, huge)


if __name__ == "__main__":
    unittest.main()
