"""Point [3]: the error classes."""

import unittest

from surepieces import errors

NAMES = [
    "InvalidBook", "InvalidRing", "InvalidPiece", "InvalidNumber", "InvalidSize", "NoRing", "Endless", "InvalidCounts",
    "InvalidBounds", "NotWithin", "InvalidCosts", "NotBalanced", "NoRingText", "InvalidPlace", "InvalidWindows",
    "Nothing", "Empty", "Unreadable", "InvalidCommand", "NotReady",
]


class ErrorsTest(unittest.TestCase):
    def classes(self):
        return [getattr(errors, name) for name in NAMES]

    def test_piece_error_is_a_value_error(self):
        self.assertTrue(issubclass(errors.PieceError, ValueError))

    def test_the_others_stand_directly_under_it(self):
        for kind in self.classes():
            self.assertEqual(kind.__bases__, (errors.PieceError,))

    def test_each_is_a_class_of_its_own(self):
        self.assertEqual([kind.__name__ for kind in self.classes()], NAMES)
        self.assertEqual(len(set(self.classes())), len(NAMES))

    def test_value_is_stored_itself(self):
        for kind in self.classes() + [errors.PieceError]:
            for value in (["ab", ["bc"]], (2, ["ab"]), None, "ab", {"a": []}, True, 10 ** 40):
                self.assertIs(kind(value).value, value)
                self.assertIs(kind(value=value).value, value)

    def test_just_one_argument_is_taken(self):
        for kind in self.classes() + [errors.PieceError]:
            self.assertRaises(TypeError, kind)
            self.assertRaises(TypeError, kind, 1, 2)
            self.assertRaises(TypeError, kind, other=1)

    def test_each_is_caught_as_piece_error_and_by_itself_alone(self):
        for kind in self.classes():
            for other in self.classes() + [errors.PieceError]:
                self.assertEqual(isinstance(kind(1), other), other in (kind, errors.PieceError))


if __name__ == "__main__":
    unittest.main()
