"""Point 3: the classes of the refusals."""

import unittest

from shoutline import errors
from tests.helper import KINDS


class TheClasses(unittest.TestCase):
    def test_line_error_stands_under_value_error(self):
        self.assertEqual(errors.LineError.__bases__, (ValueError,))

    def test_there_are_eight_kinds_by_name(self):
        names = ["NoSpan", "NoHands", "NoHand", "NoTurn", "NoHall", "NoText", "NoOrder", "NoLine"]
        self.assertEqual([kind.__name__ for kind in KINDS], names)
        self.assertEqual([getattr(errors, name) for name in names], list(KINDS))

    def test_each_kind_stands_straight_under_line_error(self):
        for kind in KINDS:
            with self.subTest(kind=kind.__name__):
                self.assertEqual(kind.__bases__, (errors.LineError,))

    def test_no_kind_stands_under_another(self):
        for one in KINDS:
            for other in KINDS:
                with self.subTest(one=one.__name__, other=other.__name__):
                    self.assertEqual(issubclass(one, other), one is other)

    def test_each_kind_can_be_raised_and_taken_as_a_line_error(self):
        for kind in KINDS:
            with self.subTest(kind=kind.__name__):
                with self.assertRaises(errors.LineError):
                    raise kind("refused")


if __name__ == "__main__":
    unittest.main()
