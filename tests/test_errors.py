"""Tests of safepatch.errors: which errors there are, and what they show."""

import copy
import inspect
import pickle
import unittest

from safepatch import errors
from safepatch.errors import BadFile, BadText, BadTexts, BadWrites, PatchError

NAMES = [
    "BadEdit",
    "BadFile",
    "BadGoal",
    "BadLayout",
    "BadText",
    "BadTexts",
    "BadWrite",
    "BadWrites",
    "NoChange",
    "NothingDone",
    "TooLarge",
]


class ErrorTest(unittest.TestCase):
    def test_patch_error_is_a_value_error(self):
        self.assertEqual(PatchError.__bases__, (ValueError,))

    def test_each_error_is_a_direct_subclass(self):
        for name in NAMES:
            with self.subTest(name):
                self.assertEqual(getattr(errors, name).__bases__, (PatchError,))

    def test_there_are_no_others_and_all_stand_in_this_file(self):
        found = [name for name, value in inspect.getmembers(errors, inspect.isclass)]
        self.assertEqual(sorted(found), sorted(NAMES + ["PatchError"]))
        for name in found:
            self.assertEqual(getattr(errors, name).__module__, "safepatch.errors")

    def test_attributes(self):
        self.assertEqual(BadFile("ORDER").part, "ORDER")
        self.assertIsNone(BadFile(None).part)
        self.assertEqual(BadWrites(3).index, 3)
        self.assertIsNone(BadWrites(None).index)
        self.assertEqual(BadTexts(2).index, 2)
        self.assertIsNone(BadTexts(None).index)
        self.assertEqual(BadText(4).row, 4)

    def test_messages_are_strings(self):
        for error in [BadFile("ORDER"), BadWrites(None), BadTexts(1), BadText(0)]:
            self.assertTrue(str(error))

    def test_attributes_outlive_a_copy(self):
        self.assertEqual(copy.copy(BadFile("TORN")).part, "TORN")
        self.assertEqual(pickle.loads(pickle.dumps(BadWrites(1))).index, 1)


if __name__ == "__main__":
    unittest.main()
