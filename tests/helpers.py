"""What the tests of all modules share."""

import unittest


class Case(unittest.TestCase):

    def refuses(self, expected, call, *args, **named):
        """The call raises an error of exactly this class with exactly these attributes."""
        try:
            result = call(*args, **named)
        except type(expected) as error:
            self.assertIs(type(error), type(expected))
            self.assertEqual(vars(error), vars(expected))
            return
        self.fail(f"no {type(expected).__name__}, but the result {result!r}")

    def judges(self, expected, call, *args):
        """The call returns True or False itself, not a value that counts as such."""
        self.assertIs(call(*args), expected)
