"""The errors and their fields."""

import unittest

from coilnets import errors
from helpers import CoilTest


class ErrorClasses(CoilTest):

    def test_base(self):
        self.assertTrue(issubclass(errors.CoilError, ValueError))

    def test_direct_subclasses(self):
        for name in ("BadPolynomial", "BadFunction", "BadRatio", "NoFunction", "TooLarge", "NotText", "InvalidText",
                     "BadNetwork", "BadNode", "BadNumber", "BadKind", "NotJoined",
                     "BadPoint", "NotPositive", "BadPairs", "BadLadder", "NotLossless", "TooManyNodes", "NotSimple",
                     "BadChain", "BadFour", "NotReciprocal", "NotSymmetric", "NotFilter", "BadPieces", "BadRung",
                     "BadSteps", "BadStep", "NotFading", "NotProper", "BadName", "BadPart", "Full", "NoPart",
                     "NothingToUndo", "BadTerminals", "BadTable", "TooManyParts"):
            self.assertEqual(getattr(errors, name).__bases__, (errors.CoilError,), name)

    def test_fields(self):
        self.assertEqual(errors.TooLarge(12).most, 12)
        self.assertEqual(errors.InvalidText(3).place, 3)
        self.assertEqual(errors.BadNetwork(2).index, 2)
        self.assertIsNone(errors.BadNetwork(None).index)
        self.assertEqual(errors.BadPairs(3).index, 3)
        self.assertIsNone(errors.BadPairs(None).index)
        self.assertEqual(errors.BadLadder(12).index, 12)
        self.assertIsNone(errors.BadLadder(None).index)
        for error in (errors.BadChain, errors.BadFour, errors.BadPieces, errors.BadSteps, errors.BadTerminals,
                      errors.BadTable):
            self.assertEqual(error(11).index, 11)
            self.assertIsNone(error(None).index)


if __name__ == "__main__":
    unittest.main()
