"""Point 5: the error classes."""

import ast
import inspect
import unittest

from stirred import errors
from stirred.errors import StirError, TooManyError, TooMuchError

WITH_A_STRING = [
    "InvalidRatioError", "ZeroRatioError", "InvalidMixtureError", "InvalidSubstanceError",
    "InvalidVolumesError", "InvalidTransfersError", "InvalidVesselError", "InvalidRowsError",
    "InvalidContentsError", "InvalidGroupError", "InvalidNumberError", "InvalidFormatError",
    "NotClosedError", "TooSmallError", "OverfullError", "SealedError", "FullError", "StartedError",
    "NotStartedError", "EmptyHistoryError",
]
BELOW = WITH_A_STRING + ["TooMuchError", "TooManyError"]


class Classes(unittest.TestCase):
    def test_the_base_is_a_direct_subclass_of_value_error(self):
        self.assertEqual(StirError.__bases__, (ValueError,))

    def test_there_are_twenty_two_others(self):
        self.assertEqual(len(set(BELOW)), 22)

    def test_each_other_one_is_a_direct_subclass_of_the_base_alone(self):
        for name in BELOW:
            with self.subTest(name):
                self.assertEqual(getattr(errors, name).__bases__, (StirError,))

    def test_no_one_is_a_subclass_of_another_one(self):
        for name in BELOW:
            for other in BELOW:
                if name != other:
                    self.assertFalse(issubclass(getattr(errors, name), getattr(errors, other)), (name, other))

    def test_each_one_is_defined_in_this_file_under_its_name(self):
        tree = ast.parse(inspect.getsource(errors))
        defined = [node.name for node in tree.body if isinstance(node, ast.ClassDef)]
        self.assertEqual(sorted(defined), sorted(BELOW + ["StirError"]))
        for name in defined:
            self.assertEqual(getattr(errors, name).__name__, name)


class Construction(unittest.TestCase):
    def test_the_others_are_constructed_with_one_string(self):
        for name in WITH_A_STRING + ["StirError"]:
            for words in ("some words", ""):
                with self.subTest(name), self.assertRaises(StirError) as caught:
                    raise getattr(errors, name)(words)
                self.assertIs(caught.exception.__class__, getattr(errors, name))

    def test_too_much_keeps_its_index(self):
        for index in (0, 1, 23, 10 ** 30):
            self.assertEqual(TooMuchError(index).index, index)
            self.assertEqual(TooMuchError(index=index).index, index)
            with self.assertRaises(StirError) as caught:
                raise TooMuchError(index)
            self.assertEqual(caught.exception.index, index)

    def test_too_many_keeps_its_limit(self):
        for limit in (0, 1, 14, 10 ** 30):
            self.assertEqual(TooManyError(limit).limit, limit)
            self.assertEqual(TooManyError(limit=limit).limit, limit)
            with self.assertRaises(StirError) as caught:
                raise TooManyError(limit)
            self.assertEqual(caught.exception.limit, limit)

    def test_two_errors_keep_their_own_fields(self):
        one, other = TooMuchError(3), TooMuchError(index=4)
        self.assertEqual([one.index, other.index], [3, 4])
        one, other = TooManyError(14), TooManyError(limit=15)
        self.assertEqual([one.limit, other.limit], [14, 15])


if __name__ == "__main__":
    unittest.main()
