"""The errors [83]."""

import copy
import pickle
import unittest

from latchroads import errors

PLAIN = ("InvalidKind", "InvalidSort", "InvalidSetting", "InvalidTrain", "InvalidRoad", "InvalidNumber",
         "InvalidOrder", "UnlikeSettings", "InvalidStretch", "NotTurning", "NotOneToOne", "InvalidTurns",
         "InvalidSide", "InvalidSides", "InvalidEndless", "InvalidLot", "InvalidTold", "InvalidSorts",
         "InvalidLog", "InvalidIndex", "NoLatch", "NothingToUndo", "NothingToRedo")


class ErrorsTest(unittest.TestCase):

    def test_base_is_a_value_error(self):
        self.assertEqual(errors.LatchError.__bases__, (ValueError,))

    def test_all_are_direct_subclasses(self):
        for name in PLAIN + ("TooMany", "InvalidText"):
            self.assertEqual(getattr(errors, name).__bases__, (errors.LatchError,), name)

    def test_there_are_no_others(self):
        found = {name for name in vars(errors) if isinstance(getattr(errors, name), type)}
        self.assertEqual(found, set(PLAIN) | {"LatchError", "TooMany", "InvalidText"})

    def test_each_is_caught_as_base(self):
        for name in PLAIN:
            with self.assertRaises(errors.LatchError):
                raise getattr(errors, name)("some words")

    def test_attributes(self):
        for number in (0, 4, 1000, 10 ** 119):
            self.assertEqual(errors.TooMany(number).limit, number)
            self.assertEqual(errors.InvalidText(number).at, number)

    def test_attributes_are_kept_by_copies(self):
        self.assertEqual(copy.copy(errors.TooMany(6)).limit, 6)
        self.assertEqual(pickle.loads(pickle.dumps(errors.InvalidText(7))).at, 7)
