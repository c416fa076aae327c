"""[5]: the error classes."""

import inspect
import unittest

from leaveorder import errors

WITH_A_STRING = [
    "InvalidWeb", "InvalidTie", "InvalidPlace", "InvalidLot", "InvalidRow", "InvalidCount", "InvalidTree",
    "InvalidBranch", "InvalidHost", "InvalidSpread", "InvalidDyeing", "InvalidDye", "InvalidWeights", "InvalidTies",
    "InvalidThicket", "InvalidStretches", "InvalidTables", "InvalidCommand", "InvalidPaper", "Refused",
    "NothingToUndo", "NoSpan", "NotReady",
]
WITH_A_FIELD = {
    "InvalidText": "index", "InvalidDeeds": "index", "TooMany": "count", "NotShown": "count", "NotLeaving": "ring",
    "NotFilling": "ring", "NotTied": "tie", "NotApart": "tie", "NotParting": "way", "NotTree": "place",
    "NotStretched": "three", "NotEven": "claw", "NotAgreeing": "lots",
}


class ErrorTest(unittest.TestCase):

    def test_all_classes_are_there_and_no_others(self):
        found = [name for name, value in vars(errors).items() if inspect.isclass(value)]
        self.assertEqual(sorted(found), sorted(["LeaveError", *WITH_A_STRING, *WITH_A_FIELD]))

    def test_each_stands_directly_under_leave_error(self):
        self.assertEqual(errors.LeaveError.__bases__, (ValueError,))
        for name in [*WITH_A_STRING, *WITH_A_FIELD]:
            self.assertEqual(getattr(errors, name).__bases__, (errors.LeaveError,), name)

    def test_each_is_defined_in_its_file(self):
        for name in ["LeaveError", *WITH_A_STRING, *WITH_A_FIELD]:
            self.assertEqual(getattr(errors, name).__module__, "leaveorder.errors", name)

    def test_those_with_a_string_keep_its_words(self):
        for name in ["LeaveError", *WITH_A_STRING]:
            self.assertEqual(str(getattr(errors, name)("some words")), "some words")

    def test_those_with_a_field_keep_the_very_value(self):
        values = [0, 12, 10 ** 89, None, (), (0, 1), [1, [2]], "x", (0, (1, 2, 3)), True]
        for name, field in WITH_A_FIELD.items():
            for value in values:
                by_position = getattr(errors, name)(value)
                by_name = getattr(errors, name)(**{field: value})
                self.assertIs(getattr(by_position, field), value, name)
                self.assertIs(getattr(by_name, field), value, name)
                self.assertEqual(list(vars(by_position)), [field])
                self.assertIn(str(value), str(by_position))
                self.assertEqual(str(by_name), str(by_position))

    def test_those_with_a_field_want_just_one_value(self):
        for name in WITH_A_FIELD:
            with self.assertRaises(TypeError):
                getattr(errors, name)()
            with self.assertRaises(TypeError):
                getattr(errors, name)(1, 2)

    def test_a_list_is_kept_itself(self):
        way = [0, 1]
        told = errors.NotParting(way)
        way.append(2)
        self.assertEqual(told.way, [0, 1, 2])

    def test_they_are_raised_and_caught_by_name(self):
        for name, field in WITH_A_FIELD.items():
            with self.assertRaises(errors.LeaveError) as caught:
                raise getattr(errors, name)((1, 2))
            self.assertEqual(getattr(caught.exception, field), (1, 2))


if __name__ == "__main__":
    unittest.main()
