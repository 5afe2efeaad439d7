import unittest

from truestops import errors

WITH_FIELD = (
    "InvalidPrime InvalidNumber InvalidSum InvalidVectors InvalidText Fault InvalidProgram InvalidRows Unsound "
    "InvalidUnits InvalidInputs InvalidEngine NotAlike UnlikePrimes InvalidBench UnknownMark UnknownStop UnknownHolder "
    "NeverPassed Stray Uneven OutOfOrder InvalidReadings InvalidLines InvalidBook InvalidRule InvalidChange "
    "InvalidAmounts InvalidDump InvalidSession InvalidScript InvalidLog InvalidCount Refused InvalidSeat InvalidState "
    "InvalidLinks NotHere InvalidLetter Unlike"
).split()
WITHOUT_FIELD = ["NothingToUndo", "NothingToRedo"]


class Point5(unittest.TestCase):
    def classes(self, names):
        return [getattr(errors, name) for name in names]

    def test_there_are_just_these(self):
        found = [name for name in vars(errors) if isinstance(getattr(errors, name), type)]
        self.assertEqual(sorted(found), sorted(["StopError"] + WITH_FIELD + WITHOUT_FIELD))

    def test_field_by_position_by_name_and_none(self):
        for kind in self.classes(WITH_FIELD):
            for thing in [[1], {"x": 1}, ("a", "name"), 0, False, "", None, ValueError()]:
                self.assertIs(kind(thing).value, thing)
                self.assertIs(kind(value=thing).value, thing)
            self.assertIsNone(kind().value)

    def test_classes_without_field(self):
        for kind in [errors.StopError] + self.classes(WITHOUT_FIELD):
            self.assertFalse(hasattr(kind(), "value"))

    def test_field_takes_one_thing_only(self):
        for kind in self.classes(WITH_FIELD):
            with self.assertRaises(TypeError):
                kind(1, 2)

    def test_bases(self):
        self.assertTrue(issubclass(errors.StopError, ValueError))
        for kind in self.classes(WITH_FIELD + WITHOUT_FIELD):
            self.assertTrue(issubclass(kind, errors.StopError))
            for other in self.classes(WITH_FIELD + WITHOUT_FIELD):
                self.assertEqual(issubclass(kind, other), kind is other)

    def test_raised_and_caught(self):
        for kind in self.classes(WITH_FIELD + WITHOUT_FIELD):
            with self.assertRaises(errors.StopError) as caught:
                raise kind
            self.assertIs(type(caught.exception), kind)


if __name__ == "__main__":
    unittest.main()
