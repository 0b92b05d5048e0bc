"""The error classes of the interface."""

import copy
import pickle
import unittest

from knockwell import errors
from knockwell.errors import BadKnocks, BadName, BadPlan, BadRows, BadTicks, Full, KnockError


class Errors(unittest.TestCase):
    def test_knock_error_stands_straight_under_value_error(self):
        self.assertEqual(KnockError.__bases__, (ValueError,))

    def test_each_stands_straight_under_knock_error(self):
        for kind in (BadPlan, BadKnocks, BadTicks, BadName, BadRows, Full):
            self.assertEqual(kind.__bases__, (KnockError,))

    def test_they_are_defined_there(self):
        for word in ("KnockError", "BadPlan", "BadKnocks", "BadTicks", "BadName", "BadRows", "Full"):
            self.assertEqual(getattr(errors, word).__module__, "knockwell.errors")
            self.assertEqual(getattr(errors, word).__name__, word)

    def test_at_is_set_on_each_object(self):
        self.assertEqual(vars(BadKnocks(7)), {"at": 7})
        self.assertEqual(vars(BadKnocks(0)), {"at": 0})
        self.assertEqual(BadKnocks().at, 0)

    def test_row_is_set_on_each_object(self):
        self.assertEqual(vars(BadRows(7)), {"row": 7})
        self.assertEqual(vars(BadRows(0)), {"row": 0})
        self.assertEqual(BadRows().row, 0)

    def test_fields_outlive_copies(self):
        self.assertEqual(copy.copy(BadKnocks(7)).at, 7)
        self.assertEqual(pickle.loads(pickle.dumps(BadRows(7))).row, 7)

    def test_all_can_be_caught_as_knock_errors_and_value_errors(self):
        for error in (BadPlan("x"), BadKnocks(1), BadTicks("x"), BadName("x"), BadRows(1), Full("x")):
            self.assertIsInstance(error, KnockError)
            self.assertIsInstance(error, ValueError)
            self.assertIsInstance(str(error), str)


if __name__ == "__main__":
    unittest.main()
