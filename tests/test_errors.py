"""The classes of errors ([4])."""

import unittest

from arrowcells import errors

GIVEN = ("InvalidNames InvalidPlace InvalidNumber InvalidText InvalidShape InvalidLengths InvalidSaying InvalidPlacing"
         " InvalidProgram InvalidTest InvalidDeed InvalidIndex InvalidLine NotAStore NotAPlan NotLengths NotALot"
         " NotABench UnknownName TooMany Restless Shared NotApart Failed").split()
INDEX = "InvalidCells InvalidNumbers InvalidBoxes InvalidWeights InvalidTurns Broken".split()
PLAIN = "HasLoop HasInnerLoop NothingToUndo".split()
VALUES = [None, True, 0, "", "x", (), ([],), [1], {"a": 1}, object(), ValueError]


class ErrorsTest(unittest.TestCase):
    def test_all_stand_under_one_base_alone(self):
        for name in GIVEN + INDEX + PLAIN + ["OtherNames"]:
            self.assertEqual(getattr(errors, name).__bases__, (errors.ArrowError,), name)
        self.assertEqual(errors.ArrowError.__bases__, (ValueError,))

    def test_there_are_no_others(self):
        found = {name for name, value in vars(errors).items() if isinstance(value, type)}
        self.assertEqual(found, set(GIVEN + INDEX + PLAIN + ["OtherNames", "ArrowError"]))

    def test_given_is_kept(self):
        for name in GIVEN:
            for value in VALUES:
                self.assertIs(getattr(errors, name)(value).given, value)
                self.assertIs(getattr(errors, name)(given=value).given, value)

    def test_index_is_kept(self):
        for name in INDEX:
            for value in VALUES:
                self.assertIs(getattr(errors, name)(value).index, value)
                self.assertIs(getattr(errors, name)(index=value).index, value)

    def test_names_and_other_are_kept(self):
        for value in VALUES:
            for error in (errors.OtherNames(value, "y"), errors.OtherNames(other="y", names=value)):
                self.assertIs(error.names, value)
                self.assertEqual(error.other, "y")

    def test_errors_without_attributes(self):
        for name in PLAIN + ["ArrowError"]:
            self.assertEqual(vars(getattr(errors, name)()), {})

    def test_they_are_raised_and_caught_by_the_base(self):
        for name in GIVEN:
            with self.assertRaises(errors.ArrowError):
                raise getattr(errors, name)(1)
            with self.assertRaises(ValueError):
                raise getattr(errors, name)(given=1)


if __name__ == "__main__":
    unittest.main()
