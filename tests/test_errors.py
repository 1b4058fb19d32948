"""Points 5 to 7 and the interface of errors.py."""

import unittest

from wayfill import errors

PLAIN = ["BadWeights", "BadEnds", "BadFare", "BadTranslation", "BadTable", "BadSum", "BadOverlap", "NothingToUndo"]

WITH_VALUES = {
    "BadLetters": ["text"], "BadWord": ["text"], "BadName": ["name"], "BadNumber": ["number"],
    "BadRow": ["at"], "BadRule": ["name"], "Rising": ["name"], "Unknown": ["name"],
    "Repeated": ["name"], "BadText": ["at"], "BadStep": ["at"], "BadSquare": ["name"],
    "BadMove": ["at"], "BadLog": ["at"], "BadChange": ["at"], "Unjoined": ["one", "other"],
    "Open": ["top", "one", "other"], "Lacking": ["top", "one", "other"], "Stopped": ["path"],
    "BadEntry": ["at", "name"],
}


class TestErrors(unittest.TestCase):

    def test_bases(self):
        self.assertEqual(errors.WayfillError.__bases__, (ValueError,))
        self.assertEqual(errors.BoundError.__bases__, (errors.WayfillError,))
        for name in ["TooLong", "TooMany"]:
            self.assertEqual(getattr(errors, name).__bases__, (errors.BoundError,))
        for name in PLAIN + list(WITH_VALUES):
            self.assertEqual(getattr(errors, name).__bases__, (errors.WayfillError,), name)

    def test_errors_without_attributes(self):
        for name in PLAIN + ["TooLong", "TooMany", "BoundError", "WayfillError"]:
            error = getattr(errors, name)()
            self.assertIsInstance(error, errors.WayfillError)
            self.assertEqual(vars(error), {}, name)

    def test_attributes_by_position_in_order(self):
        for name, attributes in WITH_VALUES.items():
            values = [f"value {at}" for at in range(len(attributes))]
            error = getattr(errors, name)(*values)
            self.assertEqual(vars(error), dict(zip(attributes, values)), name)

    def test_attributes_keep_their_values(self):
        self.assertEqual(errors.Stopped((1, 0, 2)).path, (1, 0, 2))
        self.assertEqual(errors.BadNumber(-10 ** 17).number, -10 ** 17)
        lacking = errors.Lacking("aa", (1, "R1", 0), (1, "R1", 1))
        self.assertEqual((lacking.top, lacking.one, lacking.other), ("aa", (1, "R1", 0), (1, "R1", 1)))

    def test_errors_can_be_raised_and_caught_by_their_bases(self):
        for name, attributes in WITH_VALUES.items():
            with self.assertRaises(errors.WayfillError):
                raise getattr(errors, name)(*attributes)
        with self.assertRaises(errors.BoundError):
            raise errors.TooMany()
        with self.assertRaises(ValueError):
            raise errors.TooLong()


if __name__ == "__main__":
    unittest.main()
